import PyProof.Rows.All
import Wide.All
import OpenK.AllK
import Wide.FinOn
import PyProof.EqAt
import PyProof.EqKinds
import PyProof.TupleCall
import HandS.Base
import HandS.Call
import HandS.List
import HandS.Comp
import HandS.Ends
import HandS.Words
import PyProof.ReprRoads
import HandS.Dict
import HandS.Iter
import HandS.Text
import HandS.WordsList
import HandS.Conv
import HandS.IsInst
import HandS.Gcd
import HandS.Wide
import HandS.Defaults
import HandS.Rev
import HandS.Walk
import KE.GoesEnum
import HandS.Style
import HandS.SortRule
import HandS.Deep
import HandS.More
import HandS.Flow
import HandS.TupAny
import PySem.Challenge.RW_hullrests_k12_heights_along_any_up
set_option Elab.async false
set_option linter.all false
set_option maxRecDepth 100000
namespace Ur
open PySem L2

def nums (a b c : Int) : List V := [.int a, .int b, .int c]
structure Bd (a b c : Int) : Prop where
  a0 : 0 ≤ a
  b0 : 0 ≤ b
  b1 : b < 4294967296
  c0 : 0 ≤ c
  c1 : c < 4294967296
/-- an urn: a list of three numbers within bounds, whichever -/
def UrnO (u : Addr) : HO := .ext fun h => ∃ (a b c : Int) (its : List Value) (n : Nat), Bd a b c ∧ Vals (nums a b c) its ∧ h.get? u = some { cls := .type "list", data := .seq its.toArray n }

section
variable {X : Cx} {pins : List (Addr × Obj)} {σ : L2.St} {H : Hp} {s : Shared} {u : Addr}
theorem urnOpen (I : Inv X pins σ H s) (h : H u = some (UrnO u)) : ∃ a b c, Bd a b c ∧ Inv X pins σ (upd H u (.lst (nums a b c))) s := by
  obtain ⟨⟨a, b, c, its, n, B, r, e⟩, _⟩ := I.hok u _ h
  refine ⟨a, b, c, B, I.write (x := u) (e := u) (t' := s.toks) (h' := s.heap) (by rw [h]; exact trivial) (.inl rfl) (fun b v _ q => q) ⟨_, e⟩ ?_⟩
  exact ⟨by show 3 ≤ sizeLine; decide, its, n, r, e⟩
theorem urnShut {a b c : Int} (I : Inv X pins σ H s) (h : H u = some (.lst (nums a b c))) (B : Bd a b c) : Inv X pins σ (upd H u (UrnO u)) s := by
  obtain ⟨_, its, n, r, e⟩ := I.hok u _ h
  refine I.write (x := u) (e := u) (t' := s.toks) (h' := s.heap) (by rw [h]; exact trivial) (.inl rfl) (fun b v _ q => q) ⟨_, e⟩ ?_
  exact ⟨⟨a, b, c, its, n, B, r, e⟩, ⟨_, e⟩, fun h1 h2 ⟨a, b, c, its, n, B, r, e⟩ k => ⟨a, b, c, its, n, B, r, k _ e⟩⟩
end
theorem upd_back {H : Hp} {u : Addr} {o p : HO} (h : H u = some o) : upd (upd H u p) u o = H := by
  funext b
  by_cases e : b = u
  · rw [e, upd_same, h]
  · rw [upd_ne e, upd_ne e]

def Shut (u : Addr) (Q : Hp → Prop) (H : Hp) : Prop := ∃ a b c, Bd a b c ∧ H u = some (.lst (nums a b c)) ∧ Q (upd H u (UrnO u))
/-- the statements run while the urn is seen as a list -/
def tUrn (t : TS) : TS := fun D σ H => ∃ u, H u = some (UrnO u) ∧ ∀ a b c, Bd a b c → t ⟨fun σ' H' => Shut u (D.nx σ') H', fun v H' => Shut u (D.rt v) H', fun σ' H' => Shut u (D.bk σ') H', fun σ' H' => Shut u (D.ct σ') H'⟩ σ (upd H u (.lst (nums a b c)))
def tShut (t : TE) : TE := fun σ H Q => t σ H fun v H1 => ∃ u, v = .ref u ∧ Shut u (Q v) H1
section
variable {X : Cx}
theorem pss_urn {sts : List Stmt} {t : TS} (h : PSs X sts t) : PSs X sts (tUrn t) := by
  refine ⟨fun pins s
        σ H D I hw => ?_⟩
  obtain ⟨u, hu, hw⟩ := hw
  obtain ⟨a, b, c, B, I1⟩ := urnOpen I hu
  refine thn (h.run pins s σ _ _ I1 (hw a b c B)) fun f s1 q => ?_
  cases f with
  | next => obtain ⟨σ', H', I2, a, b, c, B, e, q⟩ := q; exact ⟨σ', _, urnShut I2 e B, q⟩
  | brk => obtain ⟨σ', H', I2, a, b, c, B, e, q⟩ := q; exact ⟨σ', _, urnShut I2 e B, q⟩
  | cont => obtain ⟨σ', H', I2, a, b, c, B, e, q⟩ := q; exact ⟨σ', _, urnShut I2 e B, q⟩
  | ret v => obtain ⟨x, σ', H', I2, r, a, b, c, B, e, q⟩ := q; exact ⟨x, σ', _, urnShut I2 e B, r, q⟩
theorem pe_shut {e : Expr} {t : TE} (h : PE X e t) : PE X e (tShut t) := by
  refine ⟨fun pins s
        σ H Q I hw => ?_⟩
  refine thn (h.run pins s σ _ _ I hw) fun v s1 ⟨x, H1, I2, r, u, e1, a, b, c, B, e2, q⟩ => ?_
  exact ⟨x, _, urnShut I2 e2 B, r, q⟩
/-- repr of data -/
def rRepr (K : PySem.W.Frag) : List V → Hp → VK → Prop := fun xs H Q => ∃ (a : Addr) (d : PyData), xs = [.ref a] ∧ Dp K H (.ref a) d ∧ d.showable = true ∧ d.hasDict = false ∧ d.shown.length ≤ sizeLine ∧ d.depth ≤ 60 ∧ Q (.str d.shown) H
end
end Ur
namespace Ur
open PySem L2
section
variable {X : Cx}
theorem call_repr (hg : X.A.guards = some []) (hu : X.A.units + 64 < cLine) : CallR X (.builtin "repr") (rRepr X.K) := by
  intro pins s σ
        H xs us Q I r h
  obtain ⟨a, d, rfl, hd, h1, h2, h3, h4, q⟩ := h
  cases r with
  | cons ra rn =>
    cases rn
    obtain rfl := (show _ = Value.ref a from ra)
    obtain ⟨as, hr⟩ := Dp.reads I d _ _ hd rfl
    exact repr_of_reads' hr h1 (fun z => by rw [h2] at z; cases z) hg (by omega) (fun b o e => e) (fun h' u tk hk => ⟨.str d.shown, H, I.kept hk, ⟨u, rfl⟩, q⟩) h3
end
/-- a def's promise where no repr runs around it -/
structure FnG (P : Program) (w : World) (K : PySem.W.Frag) (mg : Str → Option Value) (base : Heap) (CX : CXT) (k : Nat) (f : Addr) (fd : FuncData) (ps : List Str) (sp : Sp) : Prop where
  lens : ∀ vs H Q E, sp vs H Q E → vs.length = ps.length
  go : ∀ (A : Around) (outer : List Env) (s : Shared) (H : Hp) (args : Args) (us : List Value) (vs : List V) (Q : VK) (E : XK), A.guards = some [] → Room k A → Env0 P w K mg base A outer s H →
    BindsTo s fd args (ps.zip us) → Vals vs us → sp vs H Q E → codeAny (model P w) A (.call (.ref f) args) (CR CX outer P w H s Q E) s
section
variable {X : Cx} {CX : CXT} {k : Nat} {f : Addr} {fd : FuncData} {ps : List Str} {sp : Sp} {E : XK} {ds : List Value} {dvs : List V}
theorem callG {x : Str} {p pos : Pos} {e : Expr} {es : List Expr} {t : TA} (F : FnG X.prog X.w X.K X.mg X.base CX k f fd ps sp) (hg : X.A.guards = some []) (hr : Room k X.A) (hgl : Gl X x) (hm : X.mg x = some (.ref f))
    (hk : PySem.W.keepIn X.K (.ref f) = true) (hb : Binds X.K fd ps []) (hx : Passes CX X E) (ha : PA X (e :: es) t) (hdb : (x == ("__debug__" : Str)) = false := by decide)
    (he : starEach (e :: es) X.env = (false, eval e X.env) :: starEach es X.env :=
          by rfl) (hpl : (backTo pos (starEach es X.env)).any (·.1) = false := by rfl) :
    PE X (.Call (.Name x p) (e :: es) [] pos) (tCall sp [] E t) := by
  constructor
  intro pins s σ H Q I h
  apply wpAny_Call_Name_kw
  apply ld_glob I hgl hm _ hdb
  apply PySem.W.callWith_K (h₀ := X.base) I.ok.mod.kin hk _ he hpl
  refine thn (ha.run pos pins s σ H _ I h) ?_
  rintro us s1 ⟨vs, H1, I1, r, q⟩
  refine ⟨I1.kIn, ?_⟩
  have q' : sp vs H1 Q E := by simpa using q
  have hl : us.length = ps.length := by
    rw [← r.length]
    exact F.lens _ _ _ _ q'
  have b1 : BindsTo s1 fd ⟨us, []⟩ (ps.zip us) := by simpa using hb s1 us I1.kIn (by simpa using hl)
  apply wpAny_call
  refine codeAny_mono (F.go X.A X.stack s1 H1 ⟨us, []⟩ us vs Q E hg hr I1.env0 b1 r q') ?_
  intro res s' hq
  match res, hq with
  | .error e, hq => exact hx pins σ H1 s1 e s' I1 hq
  | .ok (.ret u), hq => exact I1.after hq
end
end Ur

namespace Ur
open PySem L2 PyProof.Rows
section
variable {P : Program} {w : World} {K :
      PySem.W.Frag} {mg : Str → Option Value} {base : Heap}
/-- the rule for a def that asks that no repr runs around it -/
theorem okG {x qual : Str} {st : Stmt} {f : Addr} {fd : FuncData} {N ps : List Str} {k : Nat} {sp : Sp} (F : Fun K x qual st f fd) (S : FnScope N ps (defScope st))
    (len : ∀ vs H Q E, sp vs H
          Q E → vs.length = ps.length)
    (body : ∀ (cdv : Value) (A : Around) (outer : List Env) (s : Shared) (H : Hp) (vs : List V) (Q : VK) (E : XK), A.guards = some [] → Room k (A.deeper (envOfC qual (defScope st) s.heap.objs.size f cdv)) →
      sp vs H Q E → ∃ t, PSs (cxOf CX0 P w K mg base N qual (defScope st) f cdv A outer s H E).nox (defBody st) t ∧ t { nx := fun _ H' => Q .non H', rt := Q } (start N vs) H) :
    FnG P w K mg base CX0 (k + 1) f fd ps sp := by
  obtain ⟨oc, od, kV, doc, pm, an,
        cdv, ct, osl, rfl, lk, hcd⟩ := F.ex
  refine ⟨len, ?_⟩
  intro A outer s H args us vs Q E hg hr e0 hb r hsp
  have old : ∀ b o, base.get? b = some o → s.heap.get? b = some o := fun b o e => (e0.bs b o e).1
  have KX := e0.mod.kin.keeps old
  apply codeAny_call_function hr.depth (KX _ _ lk) rfl S.co S.gen rfl (PySem.W.codeRec_of KX hcd)
  apply hb
  apply wpAny_newFunctionEnv_cells S.kind
  · rintro ⟨n, v⟩ hy
    have hn := (List.of_mem_zip hy).1
    cases S.par n hn with
    | inl q => exact Or.inl q
    | inr q => exact Or.inr ⟨q, PySem.W.cellsFrom_some _ _ _ (Or.inl q)⟩
  intro env he s1 x
  subst he
  refine ⟨(e0.mod.nolimit.keeps old).keeps x.toInCall.keep, ?_⟩
  apply codeAny_func
  obtain ⟨t, ht, hq⟩ := body cdv A outer s H vs Q E hg (hr.deeper _) hsp
  have I := inv_start (CX := CX0) (E := E) S hr.hd e0 (len _ _ _ _ hsp) r x
  refine wpAny_mono (ht.nox.run [] s1 (start N vs) H _ I hq) ?_ (fun _ _ z => z)
  intro fl s' hs
  match fl, hs with
  | .ret u, ⟨v, _, H', J, rv, q⟩ => exact ⟨v, H', J.os, J.bare, J.base, J.hok, rv, q⟩
  | .next, ⟨_, H', J, q⟩ => exact ⟨V.non, H', J.os, J.bare, J.base, J.hok, rfl, q⟩
  | .brk, ⟨_, _, _, q⟩ => exact False.elim q
  | .cont, ⟨_, _, _, q⟩ => exact False.elim q
end
end Ur

namespace Ur
open PySem L2 PyProof.Rows
section
variable {P : Program} {w : World} {K : PySem.W.Frag} {mg mb : Str → Option Value} {k : Nat} {fa a : Addr} {fd : FuncData} {x : Str} {sp : Sp} {s1 : Shared} {vs : List Value} {ns : List Int}
abbrev Goes (fa a : Addr) (P : Program) (w : World) (s1 : Shared) : Prop :=
  codeAny (model P w) callerA (.call (.ref fa) ⟨[.ref a], []⟩) (fun r s' => r = .ok (.ret (.bool true)) ∧ OldK s1.heap s'.heap ∧ s'.os = s1.os ∧ AllBare s'.gens) s1
/-- from an abstract heap that tracks the script at most -/
theorem goes_of {H : Hp} (KX : K.In s1.heap) (hns : s1.heap.Ns mainGlobals mg) (hb : s1.heap.Ns builtinsNs mb) (hbb : ∀ y : Str, y ≠ "__name__" → mb y = bootBuiltins y) (hlim : s1.heap.NoLimit) (hg : s1.gens = #[])
    (ha : s1.heap.get? a = some { cls := .type "list", data := .seq vs.toArray }) (hr : Room k callerA)
    (F : ∀ base : Heap, K.In base → base.Ns mainGlobals mg → FnG P w K mg base CX0 k fa fd [x] sp) (bind : ∀ (s : Shared) (u : Value), BindsTo s fd ⟨[u], []⟩ [(x, u)])
    (hok : HOk P w H s1.heap) (hsp : sp [.ref a] H (fun v _ => v = .bl true) fun _ _ _ => False)
    (one : ∀ b, H b = none ∨ (b = a ∧ K.lookup a = none ∧ ∃ o ys, H b = some (.frz o (.lst ys)))) : Goes fa a P w s1 := by
  have seen : ∀ {b o}, s1.heap.get? b = some o → H b = none → (hidT s1.heap H).get? b = some o := fun e z => hidT_get e z
  have notD : ∀ {b o es ep}, s1.heap.get? b = some o → o.data = .dict es ep → H b = none := by
    intro b o es ep e d
    rcases one b with z | ⟨rfl, _, _⟩
    · exact z
    · rw [ha] at e
      obtain rfl := Option.some.inj e
      cases (show Data.seq vs.toArray _ = Data.dict es ep from d)
  have up : ∀ {b m}, s1.heap.Ns b m → (hidT s1.heap H).Ns b m := by
    rintro b m ⟨o, es, ep, e, d, r⟩
    exact ⟨o, es, ep, seen e (notD e d), d, r⟩
  have KB : K.In (hidT s1.heap H) := by
    intro b o e
    refine seen (KX b o e) ?_
    rcases one b with z | ⟨rfl, z, _⟩
    · exact z
    · rw [z] at e; cases e
  obtain ⟨mc, l1, l2⟩ := hlim
  have M : Mod K mg (hidT s1.heap H) := { kin := KB, glob := up hns, blt := ⟨mb, up hb, hbb⟩, nolimit := ⟨mc, up l1, l2⟩ }
  have e0 : Env0 P w K mg (hidT s1.heap H) callerA [] s1 H :=
    { frames := rfl, mod := M, bs := fun b o e => of_hidT e, bsz := Nat.le_of_eq (hidT_size _ _), funs := trivial, frf := fun b z => (by cases (show b ∈ ([] : List Addr) from z)), hok := hok, bare := .of_eq hg }
  refine codeAny_mono ((F _ KB (up hns)).go callerA [] s1 H ⟨[.ref a], []⟩ [.ref a] [.ref a] _ _ rfl hr e0 (bind s1 (.ref a)) (.cons rfl .nil) hsp) ?_
  intro r s' h
  match r, h with
  | .ok (.ret u), ⟨v, H', os, bare, un, hok', rv, hv⟩ =>
    obtain rfl : v = .bl true := hv
    obtain rfl : u = Value.bool true := rv
    refine ⟨rfl, OldK.of_keep ?_, os, bare⟩
    intro b o e
    rcases one b with z | ⟨rfl, _, oo, ys, z⟩
    · exact un.keep b o e z (fun q => (by cases (show b ∈ ([] : List Addr) from q))) (fun q => nomatch q)
    · have e1 := (hok b _ z).1
      have e2 := (hok' b _ (un.frzs b oo _ z)).1
      rw [e] at e1
      obtain rfl :=
            Option.some.inj e1
      exact e2
theorem goes (KX : K.In s1.heap) (hns : s1.heap.Ns mainGlobals mg) (hb : s1.heap.Ns builtinsNs mb) (hbb : ∀ y : Str, y ≠ "__name__" → mb y = bootBuiltins y) (hlim : s1.heap.NoLimit) (hg : s1.gens = #[])
    (ha : s1.heap.get? a = some { cls := .type "list", data := .seq vs.toArray }) (hi : IntsAre vs ns) (hl : ns.length ≤ sizeLine) (hr : Room k callerA)
    (F : ∀ base : Heap, K.In base → base.Ns mainGlobals mg → FnG P w K mg base CX0 k fa fd [x] sp) (bind : ∀ (s : Shared) (u : Value), BindsTo s fd ⟨[u], []⟩ [(x, u)])
    (hsp : ∀ H : Hp, SqL K H a (ns.map V.int) → sp [.ref a] H (fun v _ => v = .bl true) fun _ _ _ => False) : Goes fa a P w s1 := by
  have rv := vals_ints hi
  cases hk : K.lookup a with
  | some o =>
    have e := KX a o hk
    rw [ha] at e
    obtain rfl := Option.some.inj e
    refine goes_of (H := fun _ => none) KX hns hb hbb hlim hg ha hr F bind (fun b u z => nomatch z) (hsp _ (Or.inr ⟨_, vs.toArray, _, hk, rfl, rfl, rfl, ?_, ?_⟩)) (fun b => Or.inl rfl)
    · rw [List.size_toArray, hi.length]; exact hl
    · exact rv
  | none =>
    let o : Obj := { cls := .type "list", data := .seq vs.toArray }
    let H : Hp := upd (fun _ => none) a (.frz o (.lst (ns.map V.int)))
    have hH : H a = some (.frz o (.lst (ns.map V.int))) := upd_same
    refine goes_of (H := H) KX hns hb hbb hlim hg ha hr F bind ?_ (hsp H (Or.inl (Or.inr ⟨o, hH⟩))) ?_
    · intro b u z
      by_cases e : b = a
      · subst e
        rw [hH] at z
        obtain rfl := Option.some.inj z
        refine ⟨ha, ?_, vs, _, rv, ha⟩
        rw [List.length_map]
        exact hl
      · rw [show H b = none from upd_ne e] at z
        cases z
    · intro b
      by_cases e : b = a
      · exact Or.inr ⟨e, hk, o, _, by rw [e]; exact hH⟩
      · exact Or.inl (upd_ne e)
end
theorem walkG {l : PySem.W.OpenLaw} {n k : Nat} {q : Program} {loose : List Str} {XP : (Str → Option Value) → Heap → Prop} {YP : World → Heap → Prop} {d : DefRec} {K : Params → PySem.W.Frag} {sp : PySem.W.Frag → Sp} {x : Str}
    (hn : l.most = some n) (hn2 : n ≤ sizeLine) (hdf : d.params.defaults = []) (hr
          : Room k callerA) (hY : ∀ (w : World) (h : Heap), YP w h → (K w.params).In h)
    (F : ∀ (w : World) (mg : Str → Option Value) (fa : Addr) (h : Heap),
          (K w.params).In h → h.Ns mainGlobals mg → mg d.name = some (.ref fa) →
      ∃ fd : FuncData, (∀ (s : Shared) (u : Value), BindsTo s fd ⟨[u], []⟩ [(x, u)]) ∧ ∀ base : Heap, (K w.params).In base → base.Ns mainGlobals mg → FnG l.prog w (K w.params) mg base CX0 k fa fd [x] (sp (K w.params)))
    (hsp : ∀ (K : PySem.W.Frag) (H : Hp) (a : Addr) (ns : List Int), ns.length ≤ n → SqL K H a (ns.map V.int) → sp K [.ref a] H (fun v _ => v = .bl true) fun _ _ _ => False) :
    PySem.W.WalkO q loose XP YP l.row.toRowW
          d [] (fun f vs => PySem.call f vs) := by
  apply Att.attach_call hn hdf
  intro w s0 s1 mg mb fa o pm cd doc a vs ns G Y ho hd hcd hmg hobj hints hlen hg
  obtain ⟨fd, hb, hF⟩ := F w mg fa _ (hY w _ Y) G.T.g hmg
  exact goes (hY w _ Y) G.T.g G.T.b G.T.builtins G.T.nolimit hg hobj hints (Nat.le_trans hlen hn2) hr hF hb fun H hS => hsp _ H a ns hlen hS
end Ur

namespace Ur
open PySem L2
/-- the def of this name keeps this promise -/
def Has (P : Program) (w : World) (K : PySem.W.Frag) (mg : Str → Option Value) (base : Heap) (x : Str) (ps : List Str) (k : Nat) (sp : Sp) : Prop :=
  ∃ f fd, FnOk P w K mg base CX0 k f fd ps sp ∧ mg x = some (.ref f) ∧ PySem.W.keepIn K (.ref f) = true ∧ Binds K fd ps []
/-- the def stands there -/
def Fnd (K : PySem.W.Frag) (mg : Str → Option Value) (x : Str) (st : Stmt) (ps : List Str) : Prop :=
  ∃ f fd, Fun K x x st f fd ∧ mg x = some (.ref f) ∧ Binds K fd ps []
def KwAll (K : PySem.W.Frag) (fd : FuncData) (ps : List Str) : Prop := KBinds K fd ps ps (fun us ws => us ++ ws) (fun vs zs => vs ++ zs)
section
variable {X : Cx} {x : Str} {p pos : Pos} {e : Expr} {es : List Expr} {t tk : TA} {ps : List Str} {k : Nat} {sp : Sp} {kws : List Keyword}
theorem pe_has (h : Has X.prog X.w X.K X.mg X.base x ps k sp) (hr : Room k X.A) (hg : Gl X x) (ha : PA X (e :: es) t) (hdb : (x == ("__debug__" : Str)) = false := by decide)
    (he : starEach (e :: es) X.env = (false, eval e X.env) :: starEach es X.env :=
          by rfl) (hpl : (backTo pos (starEach es X.env)).any (·.1) = false := by rfl) :
    PE X (.Call (.Name x p) (e :: es) [] pos) (tCall sp [] E0 t) := by
  obtain ⟨f, fd, G, m, kp, b⟩ := h
  exact pe_call G hr hg m kp b .nil pass0 ha hdb he hpl
def tHasK (sp : Sp) (tk : TA) : TE := fun σ H Q => tk σ H fun zs H1 => sp zs H1 Q E0
/-- all arguments by name, in their order -/
theorem pe_hasK0 (h : ∃ f fd, FnOk X.prog X.w X.K X.mg X.base CX0 k f fd ps sp ∧ X.mg x = some (.ref f) ∧ PySem.W.keepIn X.K (.ref f) = true ∧ KwAll X.K fd ps) (hr : Room k X.A) (hg : Gl X x) (hkw : PK X kws tk)
    (hall : (backToKw pos (keywordEach kws X.env)).all (·.1.isSome) = true := by rfl) (hks : (backToKw pos (keywordEach kws X.env)).filterMap (·.1) = ps := by rfl) (hdb : (x == ("__debug__" : Str)) = false := by decide)
    (hpl : ((backTo pos (starEach [] X.env)).any (·.1) || (backToKw
          pos (keywordEach kws X.env)).any (·.1.isNone)) = false := by rfl) :
    PE X (.Call (.Name x p) [] kws pos) (tHasK sp tk) := by
  obtain ⟨f, fd, G, m, kp, b⟩ := h
  constructor
  intro pins s σ H Q I hq
  apply wpAny_Call_Name_kw
  apply ld_glob I hg m _ hdb
  apply PySem.W.callWith_KW0 (h₀ := X.base) I.ok.mod.kin kp hall _ hpl
  refine thn (hkw.run pos pins s σ H _ I hq) ?_
  rintro ws s2 ⟨zs, H2, I2, rz, q2⟩
  refine ⟨I2.kIn, ?_⟩
  rw [hks]
  exact run_fnk (us := []) (vs := []) G hr b pass0 I2 .nil rz q2
end
end Ur

namespace Ur
open PySem L2
theorem same_new {H : Hp} {p : Addr} {o : HO} (h : H p = none) : Same H (upd H p o) := fun a u e => by
  rw [upd_ne (ne_of_none e h)]
  exact e
/-- a list that H does not know may grow -/
theorem same_own {H H' : Hp} {p : Addr} {o : HO} (e : Same H H') (h : H p = none) : Same H (upd H' p o) := fun a u q => by
  rw [upd_ne (ne_of_none q h)]
  exact e a u q
theorem same_sqT {K : PySem.W.Frag} {H H' : Hp} {a : Addr} {xs : List V} (e : Same H H') (h : SqT K H a xs) : SqT K H' a xs := by
  rcases h with (h
        | ⟨o, h⟩) | h
  · exact Or.inl (Or.inl (e _ _ h))
  · exact Or.inl (Or.inr ⟨o, e _ _ h⟩)
  · exact Or.inr h
theorem map_at {ns : List Int} {i : Nat} {x : V} (h : (ns.map V.int)[i]? = some x) : ∃ z, ns[i]? = some z ∧ x = V.int z := by
  rw [List.getElem?_map] at h
  cases e : ns[i]? with
  | none => rw [e]
        at h; cases h
  | some z => rw [e] at h; exact ⟨z, rfl, (Option.some.inj h).symm⟩
/-- what a comprehension without a test has made behind i turns -/
structure Made (H : Hp) (Pe : Nat → V → Prop) (D : Addr) (i : Nat) (H' : Hp) : Prop where
  new : H D = none
  same : Same H H'
  held : ∃ ys, H' D = some (.lst ys) ∧ ys.length = i ∧ ∀ j y, ys[j]? = some y → Pe j y
theorem Made.start {H : Hp} {Pe : Nat → V → Prop} {D : Addr} (h : H D = none) : Made H Pe D 0 (upd H D (.lst [])) :=
  ⟨h, same_new h, [], upd_same, rfl, fun j y e => by simp at e⟩
theorem Made.turn {H H3 : Hp} {Pe : Nat → V → Prop} {D : Addr} {i : Nat} {te : TE} {σ2 : L2.St} (m : Made H Pe D i H3) (hi : i < 100000)
    (he : ∀ Q' : VK, (∀ y H4, Pe i y → Same H3 H4 → Q' y H4) → te σ2 H3 Q') :
    te σ2 H3 fun y H4 => ∃ acc, H4 D = some (.lst acc) ∧ acc.length < sizeLine ∧ Made H Pe D (i + 1) (upd H4 D (.lst (acc ++ [y]))) := by
  obtain ⟨hn, sm, ys, h1, h2, h3⟩ := m
  refine he _ fun y H4 py s4 => ⟨ys, s4 _ _ h1, Nat.lt_of_lt_of_le (by omega : ys.length < 100000) (by decide), hn, same_own (sm.trans s4) hn, ys ++ [y], upd_same, by simp [h2], fun j z e => ?_⟩
  by_cases hj : j < ys.length
  · rw [List.getElem?_append_left hj] at e
    exact h3 j z e
  · rw [List.getElem?_append_right (by omega)] at e
    have : j = i := by
      have hl := (List.getElem?_eq_some_iff.mp e).1
      simp at hl
      omega
    subst this
    rw [← h2, Nat.sub_self] at e
    obtain rfl := Option.some.inj e
    exact py
section
variable {K : PySem.W.Frag} {a : Addr} {xs : List V} {te : TE} {vs : List Nat} {j : Nat} {σ : L2.St} {H : Hp} {Q : VK}
/-- [elt for x in t], t a tuple -/
theorem lcT {tl : TE} (Pe : Nat → V → Prop) (hx : ∀ R : VK, R (.ref a) H → tl σ H R) (hs : SqT K H a xs) (hz : xs.length ≤ 100000) (hw : ∀ x, wipe ((wipe σ vs).set j (some x)) vs = wipe σ vs)
    (he : ∀ i x H3, xs[i]? = some x → Same H H3 → ∀ Q' : VK, (∀ y H4, Pe i y → Same H3 H4 → Q' y H4) → te ((wipe σ vs).set j (some x)) H3 Q')
    (hq : ∀ D ys H', H D = none → Same H H' → H' D = some (.lst ys) → ys.length = xs.length → (∀ i y, ys[i]? = some y → Pe i y) → Q (.ref D) H') : tLc (iTup K tl) (gName j) tYes te vs σ H Q := by
  refine hx _ ⟨a, rfl, ⟨xs, hs⟩, fun D hD => ?_⟩
  refine lc_tup (xs := xs) (Made H Pe D) (.start hD) (fun i H' _ m => same_sqT m.same hs) (fun i x H' hi m => ⟨hw x, ?_⟩) (fun H' ⟨hn, sm, ys, h1, h2, h3⟩ => hq D ys H' hn sm h1 h2 h3)
  have hl := (List.getElem?_eq_some_iff.mp hi).1
  unfold tYes
  dsimp only
  rw [if_pos rfl]
  exact (m.turn (by omega) (he i x H' hi m.same))
/-- [elt for x in l], l a list -/
theorem lcL {tl : TE} (Pe : Nat → V → Prop) (hx : ∀ R : VK, R (.ref a) H → tl σ H R) (hs : SqL K H a xs) (hz : xs.length ≤ 100000) (hw : ∀ x, wipe ((wipe σ vs).set j (some x)) vs = wipe σ vs)
    (he : ∀ i x H3, xs[i]? = some x → Same H H3 → ∀ Q' : VK, (∀ y H4, Pe i y → Same H3 H4 → Q' y H4) → te ((wipe σ vs).set j (some x)) H3 Q')
    (hq : ∀ D ys H', H D = none → Same H H' → H' D = some (.lst ys) → ys.length = xs.length → (∀ i y, ys[i]? = some y → Pe i y) → Q (.ref D) H') : tLc (iList K tl) (gName j) tYes te vs σ H Q := by
  refine hx _ ⟨a, rfl, ⟨xs, hs⟩, fun D hD => ?_⟩
  refine lc_list (xs := xs) (Made H Pe D) (.start hD) (fun i H' _ m => m.same.seq hs) (fun i x H' hi m => ⟨hw x, ?_⟩) (fun H' ⟨hn, sm, ys, h1, h2, h3⟩ => hq D ys H' hn sm h1 h2 h3)
  have hl := (List.getElem?_eq_some_iff.mp hi).1
  unfold tYes
  dsimp only
  rw [if_pos rfl]
  exact (m.turn (by omega) (he i x H' hi m.same))
/-- [elt for x in range(n)] -/
theorem lcR {ta : TA} {n : Int} {H0 : Hp} (Pe : Nat → V → Prop) (hx : ∀ R : List V → Hp → Prop, (∀ H1, Same H0 H1 → R [.int n] H1) → ta σ H0 R) (h0 : 0 ≤ n) (hz : n ≤ 100000) (hw : ∀ x, wipe ((wipe σ vs).set j (some x)) vs = wipe σ vs)
    (he : ∀ (i : Nat) H3, i < n → Same H0 H3 → ∀ Q' : VK, (∀ y H4, Pe i y → Same H3 H4 → Q' y H4) → te ((wipe σ vs).set j (some (.int (0 + (i : Int))))) H3 Q')
    (hq : ∀ D ys H', H0 D = none → Same H0 H' → H' D = some (.lst ys) → (ys.length : Int) = n → (∀ i y, ys[i]? = some y → Pe i y) → Q (.ref D) H') : tLc (iRng1 ta) (gName j) tYes te vs σ H0 Q := by
  refine hx _ fun H1 s1 => ⟨n, rfl, by omega, by omega, fun D hD => ?_⟩
  refine lc_range (lo := 0) (n := n.toNat) (Made H1 Pe D) (.start hD) (fun i H' hi m => ⟨hw _, ?_⟩) (fun H' ⟨hn, sm, ys, h1, h2, h3⟩ => hq D ys H' (s1.free hn) (s1.trans sm) h1 (by omega) h3)
  unfold tYes
  dsimp only
  rw [if_pos rfl]
  exact (m.turn (by omega) (he i H' (by omega) (s1.trans m.same)))
end
end Ur
namespace Ur
open PySem L2
/-- a statement and the rest, with a word of one's own between them -/
def tMid (t u : TS) : TS := fun D σ H => ∃ M : L2.St → Hp → Prop, t { D with nx := M } σ H ∧ ∀ σ' H', M σ' H' → u D σ' H'
theorem pss_mid {X : Cx} {st : Stmt} {rest : List Stmt} {t u : TS} (h1 : PS X st t) (h2 : PSs X rest u) : PSs X (st :: rest) (tMid t u) := by
  constructor
  intro pins s σ H D I hw
  obtain ⟨M, hm, hu⟩ := hw
  apply wpAny_execs_cons
  refine thn (h1.run pins s σ H { D with nx := M } I hm) ?_
  intro f s1 q
  match f, q with
  | .next, ⟨σ', H', I', q⟩ => exact h2.run pins s1 σ' H' D I' (hu σ' H' q)
  | .ret v, q => exact q
  | .brk, q => exact q
  | .cont, q => exact q
theorem seq_of {t u : TS} {D : Ends} {σ : L2.St} {H : Hp} (h : t { D with nx := u D } σ H) : tSeq t u D σ H := h
theorem asg_of {te : TE} {g : TG} {D : Ends} {σ : L2.St} {H : Hp} (h : te σ H fun x H1 => g x σ H1 D.nx) : tAsg te g D σ H := h
theorem ixN_nat {n j : Nat} (h : j < n) : ixN n (j : Int) = some j := by
  unfold ixN
  rw [if_pos (by omega),
        if_pos (by omega)]
  rfl
end Ur

namespace Ur
open PySem L2
/-! ### values of any kind -/
inductive Kd where
  | non | bool | int | str | lst | tup | dic
  deriving DecidableEq
def Kd.nm : Kd → String
  | .non => "NoneType" | .bool => "bool" | .int => "int" | .str => "str" | .lst => "list" | .tup => "tuple" | .dic => "dict"
theorem kd_int (k : Kd) : kitB k.nm "int" = some (k == .int || k == .bool) := by cases k <;> decide +kernel
theorem kd_bool (k : Kd) : kitB k.nm "bool" = some (k == .bool) := by cases k <;> decide +kernel
theorem kd_tup (k : Kd) : kitB k.nm "tuple" = some (k == .tup) := by cases k <;> decide +kernel
def OfKd (K : PySem.W.Frag) (H : Hp) (x : V) (k : Kd) : Prop := TyX K H x (.type k.nm)
def wh : V → Bool
  | .int _ => true
  | _ => false
theorem nm_inj {k l : Kd} (h : k.nm = l.nm) : k = l := by
  cases k <;> cases l <;> first | rfl | (exact absurd h (by decide))
theorem ofKd_wh {K : PySem.W.Frag} {H : Hp} {x : V} {k : Kd} (h : OfKd K H x k) : (k == .int) = wh x := by
  have no : ∀ l : Kd, l ≠ .int → Value.type k.nm = Value.type l.nm → (k == Kd.int) = false := fun l hl e => by
    have : k = l := nm_inj (by injection e)
    subst this
    exact beq_eq_false_iff_ne.mpr hl
  have yes : Value.type k.nm = Value.type Kd.int.nm → (k == Kd.int) = true := fun e => by
    have : k = .int := nm_inj (by injection e)
    subst this
    rfl
  unfold OfKd at h
  generalize ht : Value.type k.nm = t at h
  cases h with
  | base b =>
    cases b with
    | non => exact no .non (by decide) ht
    | bl y => exact no .bool (by decide) ht
    | int i => exact yes ht
    | str y => exact no .str (by decide) ht
    | flt y =>
      have e : k.nm = "float" := by injection ht
      cases k <;> exact absurd e (by decide)
    | lst e => exact no .lst (by decide) ht
    | frz e => exact no .lst (by decide) ht
    | tup e => exact no .tup (by decide) ht
    | dK e => exact no .dic (by decide) ht
    | dT e => exact no .dic (by decide) ht
    | ins e _ _ _ _ _ => cases ht
  | byt y =>
    have e : k.nm = "bytes" := by injection ht
    cases k <;> exact absurd e (by decide)
  | set e =>
    have e : k.nm = "set" := by injection ht
    cases k <;> exact absurd e (by decide)
  | kList e c => exact no .lst (by decide) ht
  | kTuple e c => exact no .tup (by decide) ht
  | kDict e c => exact no .dic (by decide) ht
  | fTuple e => exact no .tup (by decide) ht
  | fDict e => exact no .dic (by decide) ht
theorem ofKd_same {K : PySem.W.Frag} {H H' : Hp} {x : V} {k : Kd} (s : Same H H') (h : OfKd K H x k) : OfKd K H' x k := by
  unfold OfKd at h ⊢
  generalize Value.type k.nm = t at h ⊢
  cases h with
  | base b =>
    refine .base ?_
    cases b with
    | non => exact .non
    | bl y => exact .bl y
    | int i => exact .int i
    | str y => exact .str y
    | flt y => exact .flt y
    | lst e => exact .lst (s _ _ e)
    | frz e => exact .frz (s _ _ e)
    | tup e => exact .tup (s _ _ e)
    | dK e => exact .dK (s _ _ e)
    | dT e => exact .dT (s _ _ e)
    | ins e a b c d f => exact .ins (s _ _ e) a b c d f
  | byt y => exact .byt y
  | set e => exact .set (s _ _ e)
  | kList e c => exact .kList e c
  | kTuple e c => exact .kTuple e c
  | kDict e c => exact .kDict e c
  | fTuple e => exact .fTuple (s _ _ e)
  | fDict e => exact .fDict (s _ _ e)
theorem tup_kd {K : PySem.W.Frag} {H : Hp} {a : Addr} {xs : List V} (h : SqT K H a xs) : OfKd K H (.ref a) .tup := by
  rcases h with (h | ⟨o, h⟩) | ⟨o, its, n, h, c, _⟩
  · exact .base (.tup h)
  · exact .fTuple h
  · exact .kTuple h c
theorem all_wh : ∀ {xs : List V}, xs.all wh = true → ∃ ns : List Int, xs = ns.map V.int
  | [], _ => ⟨[], rfl⟩
  | x :: r, h => by
    rw [List.all_cons,
          Bool.and_eq_true] at h
    obtain ⟨ns, rfl⟩ := all_wh h.2
    cases x with
    | int i => exact ⟨i :: ns, rfl⟩
    | _ => exact absurd h.1 (by simp [wh])
theorem ints_wh (ns : List Int) : (ns.map V.int).all wh = true := by
  rw [List.all_map]
  exact List.all_eq_true.mpr
        fun _ _ => rfl
mutual
theorem dp_same {K : PySem.W.Frag} {H H' : Hp} (s : Same H H') : ∀ {v : V} {d : PyData}, Dp K H v d → Dp K H' v d
  | _, _, .non => .non
  | _, _, .bl b => .bl b
  | _, _, .int i => .int i
  | _, _, .str x => .str x
  | _, _, .lst h1 h2 => .lst (s.seq h1) (dpAll_same s h2)
  | _, _, .tup h1 h2 => .tup (same_sqT s h1) (dpAll_same s h2)
theorem dpAll_same {K : PySem.W.Frag} {H H' : Hp} (s : Same H H') : ∀ {vs : List V} {ds : List PyData}, DpAll K H vs ds → DpAll K H' vs ds
  | _, _, .nil => .nil
  | _, _, .cons h1 h2 => .cons (dp_same s h1) (dpAll_same s h2)
end
/-- an item of such a tuple -/
structure It (K : PySem.W.Frag) (H : Hp) (y : V) : Prop where
  kd : ∃ l, OfKd K H y l
  dat : ∃ d, Dp K H y d ∧ d.canLay0 = true ∧ d.depth ≤ 8
theorem It.same {K : PySem.W.Frag} {H H' : Hp} {y : V} (s : Same H H') (h : It K H y) : It K H' y :=
  ⟨let ⟨l, a⟩ := h.kd; ⟨l, ofKd_same s a⟩, let ⟨d, a, b⟩ := h.dat; ⟨d, dp_same s a, b⟩⟩
/-- a value of any kind, seen as an argument: its kind, and its items if it is a tuple -/
structure Arg (K : PySem.W.Frag) (H : Hp) (x : V) (k : Kd) (xs : List V) : Prop where
  ty : OfKd K H x k
  its : k = .tup → ∃ a, x = .ref a ∧ SqT K H a xs ∧ xs.length ≤ 1000 ∧ (∀ y ∈ xs, It K H y) ∧ ∀ i, V.int i ∈ xs → i.natAbs < 2 ^ 9000
theorem Arg.same {K : PySem.W.Frag} {H H' : Hp} {x : V} {k : Kd} {xs : List V} (s : Same H H') (A : Arg K H x k xs) : Arg K H' x k xs :=
  ⟨ofKd_same s A.ty, fun e => let ⟨a, e1, e2, e3, e4, e5⟩ := A.its e; ⟨a, e1, same_sqT s e2, e3, fun y hy => (e4 y hy).same s, e5⟩⟩
/-! ### tuples of ints as data -/
theorem dpAll_ints {K : PySem.W.Frag} {H : Hp} : ∀ ns : List Int, DpAll K H (ns.map V.int) (ns.map PyData.int)
  | [] => .nil
  | n :: r => .cons (.int n) (dpAll_ints r)
theorem dp_ints {K : PySem.W.Frag} {H : Hp} {a : Addr} {ns : List Int} (h : SqT K H a (ns.map V.int)) : Dp K H (.ref a) (.tuple (ns.map PyData.int)) := .tup h (dpAll_ints ns)
theorem lay_ints : ∀ ns : List Int, PyData.canLayAll0 (ns.map PyData.int) = true
  | [] => rfl
  | _ :: r => by
    show (true && PyData.canLayAll0 (r.map PyData.int)) = true
    rw [lay_ints r]
    rfl
theorem depth_ints : ∀ ns : List Int, PyData.depthAll (ns.map PyData.int) = 0
  | [] => rfl
  | _ :: r => by
    show max 0 (PyData.depthAll (r.map PyData.int)) = 0
    rw [depth_ints r]
    rfl
theorem shaped_ints (ns : List Int) : SeqAt.shaped (.tuple (ns.map PyData.int)) = true := by
  unfold SeqAt.shaped
  show (PyData.canLayAll0 _ && decide (PyData.depthAll _ + 1 ≤ 64)) = true
  rw [lay_ints, depth_ints]
  rfl
theorem eqvAll_ints : ∀ a b : List Int, PyData.eqvAll (a.map PyData.int) (b.map PyData.int) = decide (a = b)
  | [], [] => rfl
  | [], _ :: _ =>
        by simp [PyData.eqvAll]
  | _ :: _, [] =>
        by simp [PyData.eqvAll]
  | x :: a, y :: b => by
    show ((x == y) && PyData.eqvAll (a.map PyData.int) (b.map PyData.int)) = _
    rw [eqvAll_ints a b]
    by_cases e : x = y
    · subst e; simp
    · simp [e]
theorem eqv_ints (a b : List Int) : PyData.eqv (.tuple (a.map PyData.int)) (.tuple (b.map PyData.int)) = decide (a = b) := eqvAll_ints a b
/-- a list of such items as data -/
theorem its_dat {K : PySem.W.Frag} {H : Hp} : ∀ {ys : List V}, (∀ y ∈ ys, It K H y) → ∃ ds, DpAll K H ys ds ∧ PyData.canLayAll0 ds = true ∧ PyData.depthAll ds ≤ 8 ∧ ds.length = ys.length
  | [], _ => ⟨[], .nil, rfl, by decide, rfl⟩
  | y :: r, h => by
    obtain ⟨d, h1, h2, h3⟩ := (h y List.mem_cons_self).dat
    obtain ⟨ds, g1, g2, g3, g4⟩ := its_dat (ys := r) fun z hz => h z (List.mem_cons_of_mem _ hz)
    refine ⟨d :: ds, .cons h1 g1, ?_, ?_, by simp [g4]⟩
    · show (PyData.canLay0 d && PyData.canLayAll0 ds) = true
      rw [h2, g2]
      rfl
    · show max (PyData.depth d) (PyData.depthAll ds) ≤ 8
      omega
/-- a comprehension with a test that keeps items as they are -/
structure Kept (H : Hp) (xs : List V) (f : V → Bool) (D : Addr) (i : Nat) (H' : Hp) : Prop where
  new : H D = none
  same : Same H H'
  held : H' D = some (.lst ((xs.take i).filter f))
theorem lcTf {K : PySem.W.Frag} {a : Addr} {xs : List V} {tl te : TE} {tt : TT} {vs : List Nat} {j : Nat} {σ : L2.St} {H : Hp} {Q : VK} (f : V → Bool) (hx : ∀ R : VK, R (.ref a) H → tl σ H R) (hs : SqT K H a xs) (hz : xs.length ≤ 100000)
    (hw : ∀ x, wipe ((wipe σ vs).set j (some x)) vs = wipe σ vs)
    (ht : ∀ (i : Nat) (x : V) (H3 : Hp), xs[i]? = some x → Same H H3 → ∀ Q' : Bool → Hp → Prop, (∀ H4, Same H3 H4 → Q' (f x) H4) → tt ((wipe σ vs).set j (some x)) H3 Q')
    (he : ∀ (i : Nat) (x : V) (H3 : Hp), xs[i]? = some x → Same H H3 → ∀ Q' : VK, Q' x H3 → te ((wipe σ vs).set j (some x)) H3 Q')
    (hq : ∀ D H', H D = none → Same H H' → H' D = some (.lst (xs.filter f)) → Q (.ref D) H') : tLc (iTup K tl) (gName j) tt te vs σ H Q := by
  refine hx _ ⟨a, rfl, ⟨xs, hs⟩, fun D hD => ?_⟩
  refine lc_tup (xs := xs) (Kept H xs f D) ⟨hD, same_new hD, upd_same⟩ (fun i H' _ m => same_sqT m.same hs) (fun i x H' hi m => ⟨hw x, ?_⟩) (fun H' m => hq D H' m.new m.same (by have := m.held; rwa [List.take_length] at this))
  have hl := (List.getElem?_eq_some_iff.mp hi).1
  have e1 : xs.take (i + 1) = xs.take i ++ [x] := by
    obtain ⟨_, rfl⟩ := List.getElem?_eq_some_iff.mp hi
    exact List.take_succ_eq_append_getElem hl
  refine ht i x H' hi m.same _ fun H4 s4 => ?_
  cases hf : f x with
  | true =>
    rw [if_pos rfl]
    refine he i x H4 hi (m.same.trans s4) _ ⟨_, s4 _ _ m.held, ?_, m.new, same_own (m.same.trans s4) m.new, ?_⟩
    · have := List.length_filter_le f (xs.take i)
      rw [List.length_take] at this
      exact Nat.lt_of_lt_of_le (by omega : _ < 100001) (by decide)
    · rw [upd_same, e1, List.filter_append, List.filter_cons, if_pos hf]
      rfl
  | false =>
    rw [if_neg
          Bool.false_ne_true]
    refine ⟨m.new, m.same.trans s4, ?_⟩
    rw [e1, List.filter_append, List.filter_cons, if_neg (by rw [hf]; decide)]
    show _ = some (HO.lst (_ ++ []))
    rw [List.append_nil]
    exact s4 _ _ m.held
end Ur
namespace Ur
open PySem L2
section
variable {te : TE} {vs : List Nat} {j : Nat} {σ : L2.St} {Q : VK}
/-- [elt for x in range(n)], n drawn -/
theorem lcRn {ta : TA} {H0 : Hp} (Pn : Int → Prop) (Pe : Int → Nat → V → Prop) (hx : ∀ R : List V → Hp → Prop, (∀ n H1, Pn n → Same H0 H1 → R [.int n] H1) → ta σ H0 R) (hb : ∀ n, Pn n → 0 ≤ n ∧ n ≤ 100000)
    (hw : ∀ x, wipe ((wipe σ vs).set j (some x)) vs = wipe σ vs)
    (he : ∀ (n : Int) (i : Nat) (H3 : Hp), Pn n → i < n → Same H0 H3 → ∀ Q' : VK, (∀ y H4, Pe n i y → Same H3 H4 → Q' y H4) → te ((wipe σ vs).set j (some (.int (0 + (i : Int))))) H3 Q')
    (hq : ∀ n D ys H', Pn n → H0 D = none → Same H0 H' → H' D = some (.lst ys) → (ys.length : Int) = n → (∀ i y, ys[i]? = some y → Pe n i y) → Q (.ref D) H') : tLc (iRng1 ta) (gName j) tYes te vs σ H0 Q := by
  refine hx _ fun n H1 pn s1 => ⟨n, rfl, by have := hb n pn; omega, by have := hb n pn; omega, fun D hD => ?_⟩
  have hn := hb n pn
  refine lc_range (lo := 0) (n := n.toNat) (Made H1 (Pe n) D) (.start hD) (fun i H' hi m => ⟨hw _, ?_⟩) (fun H' ⟨hn, sm, ys, h1, h2, h3⟩ => hq n D ys H' pn (s1.free hn) (s1.trans sm) h1 (by omega) h3)
  unfold tYes
  dsimp only
  rw [if_pos rfl]
  exact m.turn (by omega) (he n i H' pn (by omega) (s1.trans m.same))
end
end Ur
namespace Ur
open PySem L2
/-- the def of this name keeps this promise where no repr runs around it -/
def HasG (P : Program) (w : World) (K : PySem.W.Frag) (mg : Str → Option Value) (base : Heap) (x : Str) (ps : List Str) (k : Nat) (sp : Sp) : Prop :=
  ∃ f fd, FnG P w K mg base CX0 k f fd ps sp ∧ mg x = some (.ref f) ∧ PySem.W.keepIn K (.ref f) = true ∧ Binds K fd ps []
def HasK (P : Program) (w : World) (K : PySem.W.Frag) (mg : Str → Option Value) (base : Heap) (x : Str) (ps : List Str) (k : Nat) (sp : Sp) : Prop :=
  ∃ f fd, FnOk P w K mg base CX0 k f fd ps sp ∧ mg x = some (.ref f) ∧ PySem.W.keepIn K (.ref f) = true ∧ KwAll K fd ps
theorem pe_hasG {X : Cx} {x : Str} {p pos : Pos} {e : Expr} {es : List Expr} {t : TA} {ps : List Str} {k : Nat} {sp : Sp} (h : HasG X.prog X.w X.K X.mg X.base x ps k sp) (hgu : X.A.guards = some []) (hr : Room k X.A) (hg : Gl X x)
    (ha : PA X (e :: es) t) (hdb : (x == ("__debug__" : Str)) = false := by decide) (he : starEach (e :: es) X.env = (false, eval e X.env) :: starEach es X.env := by rfl)
    (hpl : (backTo pos (starEach es X.env)).any (·.1) = false := by rfl) : PE X (.Call (.Name x p) (e :: es) [] pos) (tCall sp [] E0 t) := by
  obtain ⟨f, fd, G, m, kp, b⟩ := h
  exact callG G hgu hr hg m kp b pass0 ha hdb he hpl
def FndK (K : PySem.W.Frag) (mg : Str → Option Value) (x : Str) (st : Stmt) (ps : List Str) : Prop :=
  ∃ f fd, Fun K x x st f fd ∧ mg x = some (.ref f) ∧ Binds K fd ps [] ∧ KwAll K fd ps
section
variable {P : Program} {w : World} {K : PySem.W.Frag} {mg : Str → Option Value} {base : Heap} {x : Str} {st : Stmt} {ps : List Str} {k : Nat} {sp : Sp}
theorem Fnd.has (D : Fnd K mg x st ps) (h : ∀ {f fd}, Fun K x x st f fd → FnOk P w K mg base CX0 k f fd ps sp) : Has P w K mg base x ps k sp := by
  obtain ⟨f, fd, F, m, b⟩ := D
  exact ⟨f, fd, h F, m, F.kp, b⟩
theorem Fnd.hasG (D : Fnd K mg x st ps) (h : ∀ {f fd}, Fun K x x st f fd → FnG P w K mg base CX0 k f fd ps sp) : HasG P w K mg base x ps k sp := by
  obtain ⟨f, fd, F, m, b⟩ := D
  exact ⟨f, fd, h F, m, F.kp, b⟩
theorem FndK.fnd (D : FndK K mg x st ps) : Fnd K mg x st ps := by
  obtain ⟨f, fd, F, m, b, _⟩ := D
  exact ⟨f, fd, F, m, b⟩
theorem FndK.hasK (D : FndK K mg x st ps) (h : ∀ {f fd}, Fun K x x st f fd → FnOk P w K mg base CX0 k f fd ps sp) : HasK P w K mg base x ps k sp := by
  obtain ⟨f, fd, F, m, _, b⟩ := D
  exact ⟨f, fd, h F, m, F.kp, b⟩
end
section
variable {K : PySem.W.Frag} {h : Heap} {mg : Str → Option Value} {x : Str} {st : Stmt} {ps : List Str} {f : Addr} {oc kV dc pm cd ct : Value} {od an : Option Addr} {sl : Array (Option Value)}
theorem fnd_mk (X : K.In h) (G : h.Ns mainGlobals mg) (a : PySem.W.nsIn K mainGlobals x = some (some (.ref f))) (l : K.lookup f = some ⟨oc, od, .func (PySem.W.fnOf x x (defArgs st) (defBody st) (defScope st) .none kV dc pm an cd ct), sl⟩)
    (c : PySem.W.codeIn K cd x = true) (k : PySem.W.keepIn K (.ref f) = true)
    (hb : ∀ (kV doc pm : Value) (an : Option Addr) (cdv ct : Value) (us : List Value), us.length = ps.length → bindArgs (PySem.W.fnOf x x (defArgs st) (defBody st) (defScope st) .none kV doc pm an cdv ct) ⟨us, []⟩ = pure (ps.zip us)) : Fnd K mg x st ps :=
  have F := fun_mk l c k
  ⟨f, _, F, PySem.W.mg_of X G a, F.binds hb⟩
theorem fndK_mk (X : K.In h) (G : h.Ns mainGlobals mg) (a : PySem.W.nsIn K mainGlobals x = some (some (.ref f))) (l : K.lookup f = some ⟨oc, od, .func (PySem.W.fnOf x x (defArgs st) (defBody st) (defScope st) .none kV dc pm an cd ct), sl⟩)
    (c : PySem.W.codeIn K cd x = true) (k : PySem.W.keepIn K (.ref f) = true)
    (hb : ∀ (kV doc pm : Value) (an : Option Addr) (cdv ct : Value) (us : List Value), us.length = ps.length → bindArgs (PySem.W.fnOf x x (defArgs st) (defBody st) (defScope st) .none kV doc pm an cdv ct) ⟨us, []⟩ = pure (ps.zip us))
    (hk : ∀ (kV doc pm : Value) (an : Option Addr) (cdv ct : Value) (us ws : List Value), (us ++ ws).length = ps.length → bindArgs (PySem.W.fnOf x x (defArgs st) (defBody st) (defScope st) .none kV doc pm an cdv ct) ⟨us, ps.zip ws⟩ = pure (ps.zip (us ++ ws))) : FndK K mg x st ps :=
  have F := fun_mk l c k
  ⟨f, _, F, PySem.W.mg_of X G a, F.binds hb, ⟨fun _ us ws _ hl => .of_eq (hk _ _ _ _ _ _ us ws hl), fun a b => a.append b⟩⟩
end
end Ur
namespace Ur
theorem one_split {α : Type} {us ws : List α} (h : (us ++ ws).length = 1) : (∃ v, us = [] ∧ ws = [v]) ∨ ∃ v, us = [v] ∧ ws = [] := by
  match us, ws, h with
  | [], [v], _ => exact Or.inl ⟨v, rfl, rfl⟩
  | [v], [], _ => exact Or.inr ⟨v, rfl, rfl⟩
  | [], _ :: _ :: _, h => exact absurd h (by simp)
  | [_], _ :: _, h => exact absurd h (by simp)
  | _ :: _ :: _, _, h => exact absurd h (by simp)
end Ur

namespace Ur
open PySem L2
/-! ### calls by name, the names the other way round -/
def HasR (P : Program) (w : World) (K : PySem.W.Frag) (mg : Str → Option Value) (base : Heap) (x : Str) (ps : List Str) (k : Nat) (sp : Sp) : Prop :=
  ∃ f fd, FnOk P w K mg base CX0 k f fd ps sp ∧ mg x = some (.ref f) ∧ PySem.W.keepIn K (.ref f) = true ∧ ∀ (s : Shared) (ws : List Value), K.In s.heap → ws.length = ps.length → BindsTo s fd ⟨[], ps.reverse.zip ws⟩ (ps.zip ws.reverse)
def tHasR (sp : Sp) (tk : TA) : TE := fun σ H Q => tk σ H fun zs H1 => sp zs.reverse H1 Q E0
theorem vals_rev {vs : List V} {us : List Value} (h : Vals vs us) : Vals vs.reverse us.reverse := by
  induction h with
  | nil => exact .nil
  | cons a b ih =>
    rw [List.reverse_cons,
          List.reverse_cons]
    exact ih.append (.cons a .nil)
theorem pe_hasR0 {X : Cx} {x : Str} {p pos : Pos} {tk : TA} {ps : List Str} {k : Nat} {sp : Sp} {kws : List Keyword} (h : HasR X.prog X.w X.K X.mg X.base x ps k sp) (hr : Room k X.A) (hg : Gl X x) (hkw : PK X kws tk)
    (hall : (backToKw pos (keywordEach kws X.env)).all (·.1.isSome) = true := by rfl) (hks : (backToKw pos (keywordEach kws X.env)).filterMap (·.1) = ps.reverse := by rfl) (hdb : (x == ("__debug__" : Str)) = false := by decide)
    (hpl : ((backTo pos (starEach [] X.env)).any (·.1) || (backToKw pos (keywordEach kws X.env)).any (·.1.isNone)) = false := by rfl) : PE X (.Call (.Name x p) [] kws pos) (tHasR sp tk) := by
  obtain ⟨f, fd, G, m, kp, b⟩ := h
  constructor
  intro pins s σ H Q I hq
  apply wpAny_Call_Name_kw
  apply ld_glob I hg m _ hdb
  apply PySem.W.callWith_KW0 (h₀ := X.base) I.ok.mod.kin kp hall _ hpl
  refine thn (hkw.run pos pins s σ H _ I hq) ?_
  rintro ws s2 ⟨zs, H2, I2, rz, q2⟩
  refine ⟨I2.kIn, ?_⟩
  rw [hks]
  have rr := vals_rev rz
  have hl : ws.length = ps.length := by
    rw [← List.length_reverse (as := ws), ← rr.length]
    exact G.len _ _ _ _ q2
  apply wpAny_call
  refine codeAny_mono (G.run X.A X.stack s2 H2 ⟨[], ps.reverse.zip ws⟩ ws.reverse zs.reverse Q E0 hr I2.env0 (b s2 ws I2.kIn hl) rr q2) ?_
  intro res s' hq
  match res, hq with
  | .error e, hq => exact pass0 pins σ H2 s2 e s' I2 hq
  | .ok (.ret u), hq => exact I2.after hq
/-- some arguments by position, the others by name -/
def HasN (P : Program) (w : World) (K : PySem.W.Frag) (mg : Str → Option Value) (base : Heap) (x : Str) (ps : List Str) (n : Nat) (ks : List Str) (k : Nat) (sp : Sp) : Prop :=
  ∃ f fd, FnOk P w K mg base CX0 k f fd ps sp ∧ mg x = some (.ref f) ∧ PySem.W.keepIn K (.ref f) = true ∧ KBn K fd ps n ks (fun us ws => us ++ ws.reverse) (fun vs zs => vs ++ zs.reverse)
theorem pe_hasN {X : Cx} {x : Str} {p pos : Pos} {e : Expr} {es : List Expr} {t tk : TA} {ps ks : List Str} {n k : Nat} {sp : Sp} {kws : List Keyword} (h : HasN X.prog X.w X.K X.mg X.base x ps n ks k sp) (hr : Room k X.A) (hg : Gl X x)
    (ha : PA X (e :: es) t) (hkw : PK X kws tk) (hall : (backToKw pos (keywordEach kws X.env)).all (·.1.isSome)
          = true := by rfl) (hks : (backToKw pos (keywordEach kws X.env)).filterMap (·.1) = ks := by rfl)
    (hdb : (x == ("__debug__" : Str)) = false := by decide) (he : starEach
          (e :: es) X.env = (false, eval e X.env) :: starEach es X.env := by rfl)
    (hpl : ((backTo pos (starEach (e :: es) X.env)).any (·.1) || (backToKw
          pos (keywordEach kws X.env)).any (·.1.isNone)) = false := by rfl) :
    PE X (.Call (.Name x p) (e :: es) kws pos) (tCallN n ks.length sp (fun vs zs => vs ++ zs.reverse) E0 t tk) := by
  obtain ⟨f, fd, G, m, kp, b⟩ := h
  exact pe_callN G hr hg m kp b pass0 ha hkw hall hks hdb he hpl
/-! ### tuples of ints -/
def Tp (K : PySem.W.Frag) (H : Hp) (v : V) (ns : List Int) : Prop := ∃ a, v = .ref a ∧ SqT K H a (ns.map V.int)
theorem Tp.same {K : PySem.W.Frag} {H H' : Hp} {v : V} {ns : List Int} (s : Same H H') (h : Tp K H v ns) : Tp K H' v ns := by
  obtain ⟨a, e, h⟩ := h
  exact ⟨a, e, same_sqT s h⟩
theorem Tp.dp {K : PySem.W.Frag} {H : Hp} {v : V} {ns : List Int} (h : Tp K H v ns) : Dp K H v (.tuple (ns.map PyData.int)) := by
  obtain ⟨a, rfl, h⟩ := h
  exact dp_ints h
def sp1 (K : PySem.W.Frag) (pre : List Int → Prop) (f : List Int → List Int) : Sp := fun vs H Q _ => ∃ (v : V) (a : List Int), vs = [v] ∧ Tp K H v a ∧ pre a ∧ ∀ p H', Same H H' → Tp K H' p (f a) → Q p H'
def sp2 (K : PySem.W.Frag) (pre : List Int → List Int → Prop) (f : List Int → List Int → List Int) : Sp := fun vs H Q _ => ∃ (v w : V) (a b : List Int), vs = [v, w] ∧ Tp K H v a ∧ Tp K H w b ∧ pre a b ∧ ∀ p H', Same H H' → Tp K H' p (f a b) → Q p H'
def sp3 (K : PySem.W.Frag) (pre : List Int → List Int → List Int → Prop) (f : List Int → List Int → List Int → List Int) : Sp := fun vs H Q _ =>
  ∃ (v w z : V) (a b c : List Int), vs = [v, w, z] ∧ Tp K H v a ∧ Tp K H w b ∧ Tp K H z c ∧ pre a b c ∧ ∀ p H', Same H H' → Tp K H' p (f a b c) → Q p H'
end Ur
namespace Ur
open PySem L2
/-! ### texts of lists of such tuples, of ints -/
def tupD (ns : List Int) : PyData := .tuple (ns.map PyData.int)
structure IntsOk (ds : List PyData) (n : Nat) : Prop where
  ls : PyData.leavesShortAll 13 ds = true
  wt : PyData.weightAll ds ≤ n
  sh : PyData.showableAll ds = true
  hd : PyData.hasDictAll ds = false
  dp : PyData.depthAll ds ≤ 1
theorem log40 {n : Nat} (h : n < 10 ^ 12) : n.log2 + 1 ≤ 40 := by
  by_cases z : n = 0
  · subst z; decide
  · have : n.log2 < 40 := (Nat.log2_lt z).mpr (Nat.lt_of_lt_of_le h (by decide))
    omega
theorem ints_ok : ∀ {ns : List Int}, (∀ n ∈ ns, n.natAbs < 10 ^ 12) → IntsOk (ns.map PyData.int) (41 * ns.length)
  | [], _ => ⟨rfl, Nat.le_refl _, rfl, rfl, Nat.zero_le _⟩
  | n :: r, h => by
    have hn := h n List.mem_cons_self
    obtain ⟨a, b, c, d, e⟩ := ints_ok (ns := r) fun m hm => h m (List.mem_cons_of_mem _ hm)
    have l := log40 hn
    refine ⟨?_, ?_, ?_, ?_, ?_⟩
    · show (decide ((PyData.shown (.int n)).length ≤ 13) && PyData.leavesShortAll 13 (r.map PyData.int)) = true
      rw [a, decide_eq_true (PyData.shown_int_le hn)]
      rfl
    · show (if n == 0 then 0 else n.natAbs.log2 + 1) + 1 + PyData.weightAll (r.map PyData.int) ≤ 41 * (r.length + 1)
      split <;> omega
    · show (decide (n.natAbs.log2 < 1920) && PyData.showableAll (r.map PyData.int)) = true
      rw [c, decide_eq_true (by omega)]
      rfl
    · show (false || PyData.hasDictAll (r.map PyData.int)) = false
      rw [d]
      rfl
    · show max 0 (PyData.depthAll (r.map PyData.int)) ≤ 1
      omega
theorem tups_ok : ∀ {nss : List (List Int)}, (∀ ns ∈ nss, ns.length ≤ 10 ∧ ∀ n ∈ ns, n.natAbs < 10 ^ 12) → IntsOk (nss.map tupD) (411 * nss.length)
  | [], _ => ⟨rfl, Nat.le_refl _, rfl, rfl, Nat.zero_le _⟩
  | ns :: r, h => by
    obtain ⟨hl, hn⟩ := h ns List.mem_cons_self
    obtain ⟨a, b, c, d, e⟩ := tups_ok (nss := r) fun m hm => h m (List.mem_cons_of_mem _ hm)
    obtain ⟨a', b', c', d', e'⟩ := ints_ok hn
    refine ⟨?_, ?_, ?_, ?_, ?_⟩
    · show (PyData.leavesShortAll 13 (ns.map PyData.int) && PyData.leavesShortAll 13 (r.map tupD)) = true
      rw [a, a']
      rfl
    · show PyData.weightAll (ns.map PyData.int) + 1 + PyData.weightAll (r.map tupD) ≤ 411 * (r.length + 1)
      omega
    · show (PyData.showableAll (ns.map PyData.int) && PyData.showableAll (r.map tupD)) = true
      rw [c, c']
      rfl
    · show (PyData.hasDictAll (ns.map PyData.int) || PyData.hasDictAll (r.map tupD)) = false
      rw [d, d']
      rfl
    · show max (PyData.depthAll (ns.map PyData.int) + 1) (PyData.depthAll (r.map tupD)) ≤ 1
      have := depth_ints ns
      omega
/-- what repr asks of a list -/
theorem rep_of {K : PySem.W.Frag} {H : Hp} {a : Addr} {ds : List PyData} {n : Nat} {Q : VK} (hd : Dp K H (.ref a) (.list ds)) (o : IntsOk ds n) (hn : n ≤ 1000000) (q : Q (.str (PyData.shown (.list ds))) H) : rRepr K [.ref a] H Q :=
  ⟨a, .list ds, rfl, hd, o.sh, o.hd, PyData.shown_fits (B := 13) (by decide) (by decide) o.ls (Nat.le_trans o.wt (Nat.le_trans hn (by decide))), by show PyData.depthAll ds + 1 ≤ 60; have := o.dp; omega, q⟩
theorem dpAll_tps {K : PySem.W.Frag} {H : Hp} : ∀ {vs : List V} {nss : List (List Int)}, Paired (Tp K H) vs nss → DpAll K H vs (nss.map tupD)
  | _, _, .nil => .nil
  | _, _, .cons h t => .cons h.dp (dpAll_tps t)
theorem dp_list {K : PySem.W.Frag} {H : Hp} {a : Addr} {vs : List V} {ds : List PyData} (h : H a = some (.lst vs)) (hd : DpAll K H vs ds) : Dp K H (.ref a) (.list ds) := .lst (SqL.of h) hd
theorem fnd_r {K : PySem.W.Frag} {mg : Str → Option Value} {x : Str} {ps : List Str} {P : Program} {w : World} {base : Heap} {k : Nat} {sp : Sp} {f : Addr} {fd : FuncData}
    (G : FnOk P w K mg base CX0 k f fd ps sp) (m : mg x = some (.ref f)) (kp : PySem.W.keepIn K (.ref f) = true)
    (b : ∀ (s : Shared) (ws : List Value), K.In s.heap → ws.length = ps.length → BindsTo s fd ⟨[], ps.reverse.zip ws⟩ (ps.zip ws.reverse)) : HasR P w K mg base x ps k sp := ⟨f, fd, G, m, kp, b⟩
end Ur

namespace Ur
open PySem L2 PyProof.Rows
/-! ### enumerate of a tuple -/
set_option
      maxHeartbeats 1000000 in
theorem enum_one {v : Value} {o : Obj} {G : Heap → Prop} (B : Begins v o G) :
    Meets (Builtin.«enumerate.__new__» ⟨[.type "enumerate", v], []⟩) (fun _ R s => G s.heap ∧ R (.ok (.ret (.ref (s.heap.push o).objs.size)))
      { s with heap := (s.heap.push o).push { cls := .type "enumerate", data := .fields #[.none, .bool false, .ref s.heap.objs.size, rawInt 0, .none, .none] } }) :=
  .of_wp fun prog
        w A R s h => by
    obtain ⟨hp, g,
          d, tk, os⟩ := s
    obtain ⟨g1, h⟩ := h
    have hs := sub_enumerate
    have it1 : ∀ {A2 : Around} {E : Value → Shared → Prop} {Q : Value → Shared → Prop}, Q (.ref hp.objs.size) ⟨hp.push o, g, d, tk, os⟩ → wpAny (model prog w) A2 (pyIter v) Q E ⟨hp, g, d, tk, os⟩ :=
      fun q => B.iter prog w _ _ ⟨hp, g, d, tk, os⟩ _ g1 q
    wp_walk
    refine wpAny_stack_any
          fun st => wpAny_pure ?_
    split
    · rename_i c _ _ _ _ _
      cases (c == Value.type "enumerate") <;> (wp_walk using it1; exact ⟨_, rfl, h⟩)
    · wp_walk using it1
      exact ⟨_, rfl, h⟩
section
variable {prog : Program} {w : World} {A :
      Around} {E : Value → Shared → Prop} {s : Shared}
theorem call_enum_tup {t : Addr} {items : Array Value} {Q : Value → Shared → Prop} (ht : s.heap.IsTuple t items)
    (k : ∀ h', IsEnum h' (s.heap.objs.size + 1) s.heap.objs.size 0 .none → h'.IsTupleIter s.heap.objs.size t 0 → h'.objs.size = s.heap.objs.size + 2 →
      (∀ b o, s.heap.get? b = some o → h'.get? b = some o) → Q (.ref (s.heap.objs.size + 1)) { s with heap := h' }) : wpAny (model prog w) A (call (.type "enumerate") [.ref t]) Q E s := by
  have B := begins_tuple t items
  refine callType_new F.called_enumerate (by decide) (F.typeCall_enumerate_1 _) (F.newCall_enumerate_1 _) (fun obj => F.args_object_init_2 obj _) F.entry_enumerate_new (enum_one B) ⟨ht, ?_⟩
  generalize ho : ({ cls := .type "tuple_iterator", data := .fields #[.ref t, .int 0 0] } : Obj) = o at B
  have hz : (s.heap.push o).objs.size =
        s.heap.objs.size + 1 := Heap.size_push ..
  show _ ∧ _
  rw [hz]
  have he := Heap.get?_push_size (s.heap.push o) (o := { cls := .type "enumerate", data := .fields #[.none, .bool false, .ref s.heap.objs.size, rawInt 0, .none, .none] }) rfl
  rw [hz] at he
  have hi := Heap.get?_push_of_some { cls := .type "enumerate", data := .fields #[.none, .bool false, .ref s.heap.objs.size, rawInt 0, .none, .none] } (Heap.get?_push_size s.heap B.free)
  exact ⟨⟨_, he, rfl⟩, k _ he ⟨o, hi, by rw [← ho], by rw [← ho]; rfl⟩ (by rw [Heap.size_push, hz]) fun b o x => Heap.get?_push_of_some _ (Heap.get?_push_of_some _ x)⟩
end
def IteT (K : PySem.W.Frag) (a : Addr) : L2.It :=
  ⟨fun i H => ∃ (xs : List V) (x : V), SqT K H a xs ∧ xs[i]? = some x, fun i H v H' => ∃ T x, v = .ref T ∧ H T = none ∧ H' = upd H T (.tup [.int (i : Nat), x]) ∧ ∀ xs, SqT K H a xs → xs[i]? = some x, fun i H => ∃ xs : List V, SqT K H a xs ∧ xs.length = i⟩
theorem turn_enumT {P : Program} {w : World} {K : PySem.W.Frag} {elts : List Expr} {kk : Nat} {tpos : Pos} (a e it : Addr) :
    Turn P w K (.Tuple elts kk tpos) (IteT K a) [e, it] e (fun i h => (∃ old, IsEnum h e it ((i : Nat) : Int) old) ∧ h.IsTupleIter it a i ∧ e ≠ it) where
  mem := by simp
  obj := fun i h st b hb => by
    obtain ⟨⟨old, he⟩, ⟨o,
          ho, hc, hd⟩, _⟩ := st
    rcases (by simpa using hb : b = e ∨ b = it) with z | z
    · rw [z]
      exact ⟨_, he, fun v q => nomatch q⟩
    · rw [z]
      exact ⟨o, ho, fun v q => by rw [hd] at q; cases q⟩
  keep := fun i h h' st k => by
    obtain ⟨⟨old, he⟩, hi, hne⟩ := st
    exact ⟨⟨old, k e (by simp) _ he⟩, hi.at fun o q => k it (by simp) o q, hne⟩
  item := by
    intro X hP hw hK hc i
          pins s σ H E I hf st hg
    subst hP hw hK
    obtain ⟨⟨old, he⟩,
          hit, hne⟩ := st
    obtain ⟨xs, x, hq, hx⟩ := hg
    obtain ⟨its, rv, p,
          hz⟩ := I.tuple hq
    obtain ⟨u, hu,
          ru⟩ := rv.get hx
    have hel : e < s.heap.objs.size
          := Heap.lt_size he
    have hil : it < s.heap.objs.size := by
      obtain ⟨_, q, _⟩ := hit
      exact Heap.lt_size q
    have hat : a ≠ it := by
      rintro rfl
      obtain ⟨o, e1, c1, _⟩ := p
      obtain ⟨o', e2, c2, _⟩ := hit
      rw [e1] at e2
      cases e2
      rw [c1] at c2
      exact absurd (Value.type.inj c2) (by decide)
    have hae : e ≠ a := by
      rintro rfl
      obtain ⟨o, e1, c1, _⟩ := p
      have e2 : s.heap.get? e = _ := he
      rw [e1] at e2
      cases e2
      exact absurd (Value.type.inj c1) (by decide)
    have hlt : i < its.toArray.size := by
      have := (Array.getElem?_eq_some_iff.mp (by simpa using hu : its.toArray[i]? = some u)).1
      exact this
    refine wpAny_pyNext_enum_itemD (Draws.tuple (prog := X.prog) (w := X.w) (A := X.A.in1) (I.ok.hd hc) it a hat its.toArray) he ⟨hit, p⟩ hlt hne (by simp [hne, hae]) fun x' h' tk hpx ho st' hT hsz hk => ?_
    obtain rfl : x' = u := by
      have e1 : its.toArray[i]? = some u := by simpa using hu
      exact (Option.some.inj (hpx.symm.trans e1))
    refine ⟨_, rfl, wpAny_letOwnedTupleGo_enum (s := { s with heap := h', toks := tk + 1 }) ho fun h'' he' sb => ?_⟩
    have hT2 : h''.get? s.heap.objs.size = some { cls := .type "tuple", data := .seq #[.int i tk, x'] } := (sb.2 _ (Nat.ne_of_gt hel)).trans hT
    have new : ObjOk X.prog X.w (upd H s.heap.objs.size (.tup [.int (i
          : Nat), x])) h'' s.heap.objs.size (.tup [.int (i : Nat), x]) :=
      ⟨by show 2 ≤ sizeLine; decide, [.int i tk, x'], .cons ⟨_, rfl⟩ (.cons ru .nil), ⟨_, hT2, rfl, _, rfl⟩⟩
    have I1 : Inv X pins σ (upd H s.heap.objs.size (.tup [.int (i : Nat), x])) { s with heap := h'', toks := tk + 1 } :=
      I.turnedNew (ch := [e, it]) (fun b ob hb q => (sb.2 b (fun z => hb (by simp [z]))).trans
            (hk b ob (fun z => hb (by simp [z])) (fun z => hb (by simp [z])) q)) hf (Nat.le_refl _) new
    refine ⟨.ref s.heap.objs.size, _, I1, rfl, ⟨_, x, rfl, I.hok.fresh (Nat.le_refl _), rfl, fun ys hy => by rw [I.tuple_inj hy hq]; exact hx⟩, ⟨⟨x', ?_⟩, st'.1.at fun o q => (sb.2 it (Ne.symm hne)).trans q, hne⟩, fun b hb => ?_⟩
    · have e1 : ((i + 1 : Nat) :
          Int) = (i : Int) + 1 := by omega
      rw [e1]
      exact he'
    · have hb' : b <
          s.heap.objs.size := by
        rcases (by simpa using hb : b = e ∨ b = it) with z | z
        · rw [z]; exact hel
        · rw [z]; exact hil
      rw [upd_ne
            (Nat.ne_of_lt hb')]
      exact (hf b hb).1
  done := by
    intro X hP hw hK hc i
          pins s σ H E I hf st hg
    subst hP hw hK
    obtain ⟨⟨old, he⟩,
          hit, hne⟩ := st
    obtain ⟨xs, hq, hx⟩ := hg
    obtain ⟨its, rv, p,
          hz⟩ := I.tuple hq
    obtain ⟨f0, f1, f2, f3,
          f4, f5⟩ := hf it (by simp)
    have hl := rv.length
    have hat : a ≠ it := by
      rintro rfl
      obtain ⟨o, e1, c1, _⟩ := p
      obtain ⟨o', e2, c2, _⟩ := hit
      rw [e1] at e2
      cases e2
      rw [c1] at c2
      exact absurd (Value.type.inj c2) (by decide)
    have hi : i = its.toArray.size := by
      rw [List.size_toArray, ← hl]
      exact hx.symm
    subst hi
    exact wpAny_pyNext_enum_endD (Draws.tuple (prog := X.prog) (w := X.w) (A := X.A.in1) (I.ok.hd hc) it a hat its.toArray) he ⟨hit, p⟩ fun h' eb => ⟨rfl, I.turned (t' := s.toks) (fun b o hb q => eb b o hb q) f0 f1 f3 f4 f5⟩
  self := fun A i
        s Q E st h => by
    obtain ⟨⟨_, he⟩, _⟩ := st
    exact wpAny_pyIter_enum he h
def iEnumT (K : PySem.W.Frag) (ta : TA) : TI := fun σ H R => ta σ H fun vs H1 => ∃ a xs, vs = [.ref a] ∧ SqT K H1 a xs ∧ R (IteT K a) H1
theorem pi_enumT {X : Cx} {e : Expr} {ta : TA} {p pos tpos : Pos} {elts : List Expr} {kk : Nat} (hg : Gl X "enumerate") (hm : X.mg "enumerate" = none) (ha : PA X [e] ta) (hs : starEach [e] X.env = [(false, eval e X.env)] := by rfl) :
    PI X (.Tuple elts kk tpos) (.Call (.Name "enumerate" p) [e] [] pos) (iEnumT X.K ta) := by
  refine ⟨fun pins
        s σ H R I h => ?_⟩
  refine Call_ (ld_blt I hg hm boot_enumerate (PyProof.Rows.callWith_type1 (thn
        (ha.run pos pins s σ H _ I h) fun us s1 ⟨vs, H1, I1, r1, q1⟩ => ?_) hs rfl))
  obtain ⟨a, xs,
        ex, hq, q⟩ := q1
  subst ex
  cases r1 with
  | cons r rr =>
    cases rr
    cases r
    obtain ⟨its, rv, p', hz⟩ := I1.tuple hq
    refine call_enum_tup p' fun h' he hit hsz hk => wpAny_pyIter_enum he ?_
    have I2 : Inv X pins σ H1 { s1 with heap
          := h' } := I1.kept (t' := s1.toks) hk
    refine ⟨s1.heap.objs.size + 1, [s1.heap.objs.size + 1, s1.heap.objs.size], _, _, H1, rfl, I2, turn_enumT a (s1.heap.objs.size + 1) s1.heap.objs.size, ⟨⟨.none, he⟩, hit, Nat.succ_ne_self _⟩, fun b hb => ?_, q⟩
    have hle :
          s1.heap.objs.size ≤ b := by
      rcases (by simpa using hb : b = s1.heap.objs.size + 1 ∨ b = s1.heap.objs.size) with z | z
      · rw [z]; exact
            Nat.le_add_right _ _
      · rw [z]; exact Nat.le_refl _
    exact I1.fpOk hle
          (I1.hok.fresh hle)
end Ur

namespace Ur
open PySem L2 PyProof.Rows
/-! ### the other laws' pot: own number, stir, count -/
structure Bp (a b c : Int) : Prop where
  a0 : 0 ≤ a
  b0 : 0 ≤ b
  b1 : b < 4294967296
  c0 : 0 ≤ c
def PotO (u : Addr) : HO := .ext fun h => ∃ (a b c : Int) (its : List Value) (n : Nat), Bp a b c ∧ Vals (nums a b c) its ∧ h.get? u = some { cls := .type "list", data := .seq its.toArray n }
section
variable {X : Cx} {pins : List (Addr × Obj)} {σ : L2.St} {H : Hp} {s : Shared} {u : Addr}
theorem potOpen (I : Inv X pins σ H s) (h : H u = some (PotO u)) : ∃ a b c, Bp a b c ∧ Inv X pins σ (upd H u (.lst (nums a b c))) s := by
  obtain ⟨⟨a, b, c, its, n, B, r, e⟩, _⟩ := I.hok u _ h
  refine ⟨a, b, c, B, I.write (x := u) (e := u) (t' := s.toks) (h' := s.heap) (by rw [h]; exact trivial) (.inl rfl) (fun b v _ q => q) ⟨_, e⟩ ?_⟩
  exact ⟨by show 3 ≤ sizeLine; decide, its, n, r, e⟩
theorem potShut {a b c : Int} (I : Inv X pins σ H s) (h : H u = some (.lst (nums a b c))) (B : Bp a b c) : Inv X pins σ (upd H u (PotO u)) s := by
  obtain ⟨_, its, n, r, e⟩ := I.hok u _ h
  refine I.write (x := u) (e := u) (t' := s.toks) (h' := s.heap) (by rw [h]; exact trivial) (.inl rfl) (fun b v _ q => q) ⟨_, e⟩ ?_
  exact ⟨⟨a, b, c, its, n, B, r, e⟩, ⟨_, e⟩, fun h1 h2 ⟨a, b, c, its, n, B, r, e⟩ k => ⟨a, b, c, its, n, B, r, k _ e⟩⟩
end
def ShutP (u : Addr) (Q : Hp → Prop) (H : Hp) : Prop := ∃ a b c, Bp a b c ∧ H u = some (.lst (nums a b c)) ∧ Q (upd H u (PotO u))
def tPot (t : TS) : TS := fun D σ H => ∃ u, H u = some (PotO u) ∧ ∀ a b c, Bp a b c → t ⟨fun σ' H' => ShutP u (D.nx σ') H', fun v H' => ShutP u (D.rt v) H', fun σ' H' => ShutP u (D.bk σ') H', fun σ' H' => ShutP u (D.ct σ') H'⟩ σ (upd H u (.lst (nums a b c)))
def tShutP (t : TE) : TE := fun σ H Q => t σ H fun v H1 => ∃ u, v = .ref u ∧ ShutP u (Q v) H1
section
variable {X : Cx}
theorem pss_pot {sts : List Stmt} {t : TS} (h : PSs X sts t) : PSs X sts (tPot t) := by
  refine ⟨fun pins s
        σ H D I hw => ?_⟩
  obtain ⟨u, hu, hw⟩ := hw
  obtain ⟨a, b, c, B, I1⟩ := potOpen I hu
  refine thn (h.run pins s σ _ _ I1 (hw a b c B)) fun f s1 q => ?_
  cases f with
  | next => obtain ⟨σ', H', I2, a, b, c, B, e, q⟩ := q; exact ⟨σ', _, potShut I2 e B, q⟩
  | brk => obtain ⟨σ', H', I2, a, b, c, B, e, q⟩ := q; exact ⟨σ', _, potShut I2 e B, q⟩
  | cont => obtain ⟨σ', H', I2, a, b, c, B, e, q⟩ := q; exact ⟨σ', _, potShut I2 e B, q⟩
  | ret v => obtain ⟨x, σ', H', I2, r, a, b, c, B, e, q⟩ := q; exact ⟨x, σ', _, potShut I2 e B, r, q⟩
theorem pe_shutP {e : Expr} {t : TE} (h : PE X e t) : PE X e (tShutP t) := by
  refine ⟨fun pins s
        σ H Q I hw => ?_⟩
  refine thn (h.run pins s σ _ _ I hw) fun v s1 ⟨x, H1, I2, r, u, e1, a, b, c, B, e2, q⟩ => ?_
  exact ⟨x, _, potShut I2 e2 B, r, q⟩
end
/-! ### enumerate, walked -/
theorem walk_enumT {K : PySem.W.Frag} {a : Addr} {xs : List V} : Walk (IteT K a) xs.length (fun H => SqT K H a xs) (fun i H v H' => ∃ T x, v = .ref T ∧ H T = none ∧ H' = upd H T (.tup [.int (i : Nat), x]) ∧ xs[i]? = some x) where
  goes := fun i H hi h => ⟨xs, xs[i], h, by simp [hi]⟩
  stops := fun H h => ⟨xs, h, rfl⟩
  yields := fun i H v H' _ h ⟨T, x, e, n, u, q⟩ => ⟨T, x, e, n, u, q xs h⟩
end Ur

namespace Ur
open PySem L2 PyProof.Rows
theorem Made.on {H H3 H4 : Hp} {Pe : Nat → V → Prop} {D : Addr} {i : Nat} (m : Made H Pe D i H3) (s : Same H3 H4) : Made H Pe D i H4 := by
  obtain ⟨hn, sm, ys, h1, h2, h3⟩ := m
  exact ⟨hn, sm.trans s, ys, s _ _ h1, h2, h3⟩
/-- the target of enumerate's pairs -/
abbrev gPair (K : PySem.W.Frag) (i j : Nat) : TG := gTup K 2 (gCons (gName i) (gCons (gName j) gNil))
theorem pair_in {K : PySem.W.Frag} {i j : Nat} {T : Addr} {x y : V} {σ : L2.St} {H : Hp} {Q : L2.St → Hp → Prop} (h : H T = some (.tup [x, y])) (q : Q ((σ.set i (some x)).set j (some y)) H) : gPair K i j (.ref T) σ H Q :=
  ⟨T, [x, y], rfl, SqT.of h, rfl, x, [y], rfl, y, [], rfl, rfl, q⟩
section
variable {K : PySem.W.Frag} {a : Addr} {xs : List V} {te : TE} {ta : TA} {vs : List Nat} {i1 j1 : Nat} {σ : L2.St} {H : Hp} {Q : VK}
theorem lc_pairs {J : L2.It} {G : Hp → Prop} (Pe : Nat → V → Prop) (W : Walk J xs.length G (fun i H v H' => ∃ T x, v = .ref T ∧ H T = none ∧ H' = upd H T (.tup [.int (i : Nat), x]) ∧ xs[i]? = some x)) (hG : ∀ H', Same H H' → G H') (hz : xs.length ≤ 100000)
    (hw : ∀ x y, wipe (((wipe σ vs).set i1 (some x)).set j1 (some y)) vs = wipe σ vs)
    (he : ∀ (i : Nat) x H3, xs[i]? = some x → Same H H3 → ∀ Q' : VK, (∀ y H4, Pe i y → Same H3 H4 → Q' y H4) → te (((wipe σ vs).set i1 (some (.int (i : Nat)))).set j1 (some x)) H3 Q')
    (hq : ∀ D ys H', H D = none → Same H H' → H' D = some (.lst ys) → ys.length = xs.length → (∀ i y, ys[i]? = some y → Pe i y) → Q (.ref D) H') (D : Addr) (hD : H D = none) :
    ∃ W : Nat → Nat → Hp → Prop, (∃ m, W 0 m (upd H D (.lst []))) ∧ ∀ i m H, W i m H →
      (J.stop i H ∧ Q (.ref D) H) ∨ (J.go i H ∧ ∃ Nx : Hp → Prop, (∀ H', Nx H' → ∃ m', m' < m ∧ W (i + 1) m' H') ∧ ∀ x H', J.yld i H x H' → gPair K i1 j1 x (wipe σ vs) H' fun σ2 H2 => wipe σ2 vs = wipe σ vs ∧ tYes σ2 H2 fun b H3 =>
        if b = true then te σ2 H3 fun y H4 => ∃ acc, H4 D = some (.lst acc) ∧
              acc.length < sizeLine ∧ Nx (upd H4 D (.lst (acc ++ [y]))) else Nx H3) := by
  refine lc_it W (Qd := Q (.ref D)) (Made H Pe D) (.start hD) (fun i H' _ m => hG _ m.same) (fun i v H3 H' hi m hY => ?_) (fun H' ⟨hn, sm, ys, h1, h2, h3⟩ => hq D ys H' hn sm h1 h2 h3)
  obtain ⟨T, x, rfl, hT, rfl, hx⟩ := hY
  have s3 := same_new (p := T) (o := HO.tup [.int (i : Nat), x]) hT
  refine pair_in upd_same ⟨hw _ _, ?_⟩
  unfold tYes
  dsimp only
  rw [if_pos rfl]
  exact (m.on s3).turn (by omega) (he i x _ hx (m.same.trans s3))
/-- [e for i, x in enumerate(l)], l a list -/
theorem lcE (Pe : Nat → V → Prop) (hx : ∀ R : List V → Hp → Prop, R [.ref a] H → ta σ H R) (hs : SqL K H a xs) (hz : xs.length ≤ 100000)
    (hw : ∀ x y, wipe (((wipe σ vs).set i1 (some x)).set j1 (some y)) vs = wipe σ vs)
    (he : ∀ (i : Nat) x H3, xs[i]? = some x → Same H H3 → ∀ Q' : VK, (∀ y H4, Pe i y → Same H3 H4 → Q' y H4) → te (((wipe σ vs).set i1 (some (.int (i : Nat)))).set j1 (some x)) H3 Q')
    (hq : ∀ D ys H', H D = none → Same H H' → H' D = some (.lst ys) → ys.length = xs.length → (∀ i y, ys[i]? = some y → Pe i y) → Q (.ref D) H') : tLc (iEnum K ta) (gPair K i1 j1) tYes te vs σ H Q := by
  refine hx _ ⟨a, xs, rfl, hs, fun D hD => ?_⟩
  refine lc_pairs Pe ⟨walk_enum.goes, walk_enum.stops, fun i H v H' hi q y => ?_⟩ (fun H' s => s.seq hs) hz hw he hq D hD
  obtain ⟨T, x, y', h1, h2, h3, h4, h5⟩ := walk_enum.yields i H v H' hi q y
  cases h4
  exact ⟨T, y', h1, h2, h3, h5⟩
/-- [e for i, x in enumerate(t)], t a tuple -/
theorem lcET (Pe : Nat → V → Prop) (hx : ∀ R : List V → Hp → Prop, R [.ref a] H → ta σ H R) (hs : SqT K H a xs) (hz : xs.length ≤ 100000)
    (hw : ∀ x y, wipe (((wipe σ vs).set i1 (some x)).set j1 (some y)) vs = wipe σ vs)
    (he : ∀ (i : Nat) x H3, xs[i]? = some x → Same H H3 → ∀ Q' : VK, (∀ y H4, Pe i y → Same H3 H4 → Q' y H4) → te (((wipe σ vs).set i1 (some (.int (i : Nat)))).set j1 (some x)) H3 Q')
    (hq : ∀ D ys H', H D = none → Same H H' → H' D = some (.lst ys) → ys.length = xs.length → (∀ i y, ys[i]? = some y → Pe i y) → Q (.ref D) H') : tLc (iEnumT K ta) (gPair K i1 j1) tYes te vs σ H Q := by
  refine hx _ ⟨a, xs, rfl, hs, fun D hD => ?_⟩
  exact lc_pairs Pe walk_enumT (fun H' s => same_sqT s hs) hz hw he hq D hD
end
end Ur
namespace Ur
open PySem L2 PyProof.Rows
def rLen (K : PySem.W.Frag) : List V → Hp → VK → Prop := fun xs H Q => ∃ p ys, xs = [V.ref p] ∧ (SqL K H p ys ∨ SqT K H p ys) ∧ Q (.int (ys.length : Nat)) H
theorem len_seq {X : Cx} : CallR X (.builtin "len") (rLen X.K) := call_len_seq
end Ur

namespace Ur
open PySem L2 PyProof.Rows
/-! ### t[::-1], t a tuple -/
theorem fm_all {α β : Type} {f : α → Option β} {g : α → β} : ∀ {l : List α}, (∀ m ∈ l, f m = some (g m)) → l.filterMap f = l.map g
  | [], _ => rfl
  | a :: r, h => by
    rw [List.filterMap_cons, h a List.mem_cons_self, List.map_cons, fm_all fun m hm => h m (List.mem_cons_of_mem _ hm)]
theorem back_pick (xs : Array Value) : ((List.range xs.size).filterMap fun (m : Nat) => xs[(((xs.size : Int) - 1) + (m : Int) * (-1)).toNat]?) = xs.toList.reverse := by
  have e : ((List.range xs.size).filterMap fun (m : Nat) => xs[(((xs.size : Int) - 1) + (m : Int) * (-1)).toNat]?) = (List.range xs.size).filterMap fun m => xs[xs.size - 1 - m]? := by
    congr 1
    funext m
    by_cases h : m ≤ xs.size - 1
    · by_cases h0 : xs.size = 0
      · rw [Array.getElem?_eq_none (by omega), Array.getElem?_eq_none (by omega)]
      · rw [show (((xs.size : Int) - 1) + (m : Int) * (-1)).toNat = xs.size - 1 - m by omega]
    · rw [show (((xs.size : Int) - 1) + (m : Int) * (-1)).toNat = xs.size - 1 - m by omega]
  rw [e]
  have e3 : (List.range xs.size).filterMap (fun m => xs[xs.size - 1 - m]?) = (List.range xs.size).map (fun m => xs.toList.getD (xs.size - 1 - m) .none) := by
    refine fm_all fun m hm => ?_
    have : m < xs.size := List.mem_range.mp hm
    rw [List.getD_eq_getElem?_getD, Array.getElem?_toList, Array.getElem?_eq_getElem (by omega)]
    rfl
  rw [e3]
  apply List.ext_getElem?
  intro i
  rw [List.getElem?_map]
  by_cases h : i < xs.size
  · rw [List.getElem?_range h, List.getElem?_reverse (by simpa using h)]
    rw [Option.map_some, List.getD_eq_getElem?_getD, Array.length_toList, List.getElem?_eq_getElem (by rw [Array.length_toList]; omega)]
    rfl
  · rw [List.getElem?_eq_none (by rw [List.length_range]; omega), List.getElem?_eq_none (by rw [List.length_reverse, Array.length_toList]; omega)]
    rfl
section
variable {prog : Program} {w : World} {A :
      Around} {E : Value → Shared → Prop} {s : Shared}
theorem applied_back {sl : Addr} {t1 : Tok} {n : Nat} {Q : Int × Int × Nat → Shared → Prop} (hs : s.heap.IsSliceOf sl .none .none (.int (-1) t1))
    (h : Q ((n : Int) - 1, -1, n) s) : wpAny (model prog w) A (Builtin.Slice.sliceApplied (.ref sl) (pure (n : Int))) Q E s := by
  obtain ⟨os, hoz, hcz, hdz⟩ := id hs
  unfold Builtin.Slice.sliceApplied
        Builtin.Slice.sliceFields
  refine wpAny_bind (wpAny_bind (wpAny_field hoz hdz (x := .none) rfl (wpAny_bind (wpAny_field hoz hdz (x := .none) rfl (wpAny_bind (wpAny_field hoz hdz (x := .int (-1) t1) rfl (wpAny_pure ?_)))))))
  refine wpAny_bind (slicePart_int ?_)
  show wpAny _ _ (if ((-1 : Int) == 0) = true then _ else _) _ _ s
  rw [if_neg (by decide)]
  refine wpAny_bind (slicePart_none (wpAny_bind (slicePart_none (wpAny_bind (wpAny_pure ?_)))))
  show wpAny _ _ (match Builtin.Slice.sliceAdjust none none (-1) (n : Int) with | (lo, hi) => pure (lo, (-1 : Int), Builtin.Slice.slicePlaces lo hi (-1))) _ _ s
  have e : Builtin.Slice.sliceAdjust none none (-1) (n : Int) = ((n : Int) - 1, -1) := rfl
  rw [e]
  have e2 : Builtin.Slice.slicePlaces ((n : Int) - 1) (-1) (-1) = n := by
    delta Builtin.Slice.slicePlaces
    rw [if_neg (by decide)]
    split
    · rw [show (-(-1 : Int)) = 1 from rfl, Int.ediv_one]
      omega
    · omega
  show wpAny _ _ (pure (((n : Int) - 1), (-1 : Int), Builtin.Slice.slicePlaces ((n : Int) - 1) (-1) (-1))) _ _ s
  rw [e2]
  exact wpAny_pure h
theorem item_back {t sl : Addr} {items : Array Value} {t1 : Tok} {Q : Value → Shared → Prop} (ht : IsTup s.heap t items) (hs : s.heap.IsSliceOf sl .none .none (.int (-1) t1))
    (h : Q (.ref s.heap.objs.size) { s with heap := s.heap.push { cls := .type "tuple", data := .seq items.toList.reverse.toArray } }) (hsz : items.size ≤ sizeLine) : wpAny (model prog w) A (getItem (.ref t) (.ref sl)) Q E s := by
  have hbig : sizeOk (.seq items.toList.reverse.toArray) := by
    show items.toList.reverse.toArray.size ≤ sizeLine
    rw [List.size_toArray, List.length_reverse, Array.length_toList]
    exact hsz
  obtain ⟨os, hoz, hcz, hdz⟩ := id hs
  have hTz : s.TypeIs (.ref sl) "slice" := ⟨os, hoz, hcz⟩
  unfold getItem
  try with_reducible
        refine wpAny_holding ?_
  first | (refine wpAny_bind (wpAny_pure ?_)) | skip
  refine wpAny_bind (wpAny_sequenceKey
        ht.typeIs (by decide) ?_)
  refine wpAny_bind (wpAny_callSpecial?_slot (name := Str.ofString
        "__getitem__") ht.typeIs PyProof.Rows.slot_tuple_getitem
    (wpAny_call_entry PyProof.Rows.slot_tuple_getitem
          ht.typeIs entry_tuple_getitem ?_ (args_tuple_getitem _ _)))
  show wpAny _ _ (Builtin.Tuple.tupleItemsOf
        (.ref t) >>= _) _ _ s
  refine wpAny_bind
        (tupleItemsOf_ ht ?_)
  refine wpAny_bind (wpAny_typeOf hTz ?_)
  rw [if_pos (by decide)]
  refine wpAny_bind (applied_back (t1 := t1) hs ?_)
  have hno : ¬ ((((items.size : Int) - 1) == 0 && (-1 : Int) == 1 && items.size == items.size) = true) := by
    intro q
    rw [Bool.and_eq_true,
          Bool.and_eq_true] at q
    exact absurd q.1.2 (by decide)
  show wpAny _ _ (if (((items.size : Int) - 1) == 0 && (-1 : Int) == 1 && items.size == items.size) = true then _ else _) _ _ s
  rw [if_neg hno, back_pick]
  first
    | exact wpAny_bind (m := Builtin.Tuple.tupleExact _) (wpAny_newObj_type (wpAny_pure ⟨_, rfl, wpAny_pure h⟩) hbig)
    | exact wpAny_bind (m := Builtin.Tuple.tupleExact _) (wpAny_newObj_type (wpAny_bind (wpAny_pure (wpAny_pure ⟨_, rfl, wpAny_pure h⟩))) hbig)
    | exact wpAny_bind (wpAny_bind (m := Builtin.Tuple.tupleExact _) (wpAny_newObj_type (wpAny_pure (wpAny_pure ⟨_, rfl, wpAny_pure h⟩)) hbig))
    | exact wpAny_bind (wpAny_bind (m := Builtin.Tuple.tupleExact _) (wpAny_newObj_type (wpAny_pure ⟨_, rfl, wpAny_pure h⟩) hbig))
end
section
variable {X : Cx}
def tRevT (K : PySem.W.Frag) (te : TE) : TE := fun σ H Q => te σ H fun x H1 => ∃ a xs, x = .ref a ∧ SqT K H1 a xs ∧ ∀ p, H1 p = none → Q (.ref p) (upd H1 p (.tup xs.reverse))
theorem pe_revT {e : Expr} {te : TE} {k : Nat} {p1 p2 p3 pos : Pos} (he : PE X e te) : PE X (.Subscript e (.Slice none none (some (.UnaryOp .USub (.Constant (.int 1) k p1) p2)) p3) pos) (tRevT X.K te) := by
  refine ⟨fun pins
        s σ H Q I h => ?_⟩
  refine Subscript_ (thn (he.run pins s σ H
        _ I h) fun v s1 ⟨x, H1, I1, r1, q1⟩ => ?_)
  obtain ⟨a, xs,
        ex, hx, q⟩ := q1
  subst ex
  cases r1
  have hsz0 : PO X (some (.UnaryOp .USub (.Constant (.int 1) k p1) p2)) (tPart (tUn (rU fun i => .int (-i)) (tC (.int 1)))) := po_some (pe_un un_neg pe_int)
  refine wpAny_Slice (thn (po_none.run pins s1 σ H1 (fun o H2 => o = none ∧ H2 = H1) I1 ⟨rfl, rfl⟩) fun vl s2 ⟨l, H2, IR, pl, el, e2⟩ => ?_)
  subst el e2
  refine thn (po_none.run pins s2 σ H2 (fun o H3 => o = none ∧ H3 = H2) IR ⟨rfl, rfl⟩) fun vu s3 ⟨u, H3, IT, pu, eu, e3⟩ => ?_
  subst eu e3
  refine thn (hsz0.run pins s3 σ H3 (fun o H4 => o = some (-1) ∧ H4 = H3) IT ⟨1, rfl, -1, rfl, rfl, rfl⟩) fun vs s4 ⟨o, H4, IU, ps, eo, e4⟩ => ?_
  subst eo e4
  have IV : Inv X pins σ H4 { s4 with heap := s4.heap.push { cls := .type "slice", data := .fields #[vl, vu, vs] } } := IU.kept (t' := s4.toks) fun b ob q => Heap.get?_push_of_some _ q
  obtain ⟨its, r, ht, hz⟩ := IV.tuple hx
  have hlen := r.length
  show wpAny (model X.prog X.w) X.A (subscriptTail e (.Slice none none (some (.UnaryOp .USub (.Constant (.int 1) k p1) p2)) p3) (.ref a)
        (.ref s4.heap.objs.size)) (EP X pins σ Q) X.xe { s4 with heap := s4.heap.push { cls := .type "slice", data := .fields #[vl, vu, vs] } }
  refine tail_any (ops := [.ref a, .ref s4.heap.objs.size]) ht.typeIs (PyProof.Rows.slot_tuple_getitem.lookup) ?_ (by with_unfolding_all rfl)
  cases pl
  cases pu
  cases ps with
  | int i t1 =>
    refine item_back (t1 := t1) ht (Heap.IsSliceOf.new ..) ?_ (by rw [List.size_toArray]; omega)
    refine ⟨.ref _, _, IV.laid (t' := s4.toks) (o := .tup xs.reverse) (fun b ob q => Heap.get?_push_of_some _ q) (Nat.le_refl _) ?_, rfl, q _ (IV.hok.fresh (Nat.le_refl _))⟩
    exact ⟨by rw [List.length_reverse]; exact hz, _, r.reverse, IsTup.new _ _⟩
end
end Ur

namespace K8
open PySem L2 Ur
def top (i : Nat) : Stmt := PySem.Challenge.pw_hullrests_k12_heights_along_any_up.main.body.getD i (.Pass ⟨0, 0, 0, 0⟩)
abbrev sUrn : Stmt := top 37
abbrev sPull : Stmt := top 38
abbrev sAny : Stmt := top 39
abbrev sNum : Stmt := top 40
abbrev sLaps : Stmt := top 41
/-- what the top leaves of the built-in names -/
structure Bl (mg : Str → Option Value) : Prop where
  int : mg "int" = none
  abs : mg "abs" = none
  len : mg "len" = none
  max : mg "max" = none
  min : mg "min" = none
  divmod : mg "divmod" = none
  range : mg "range" = none
  tuple : mg "tuple" = none
  isinstance : mg "isinstance" = none
  bool : mg "bool" = none
  all : mg "all" = none
  repr : mg "repr" = none
  list : mg "list" = none
  sorted : mg "sorted" = none
  enumerate : mg "enumerate" = none
section
variable {P : Program} {w : World} {K :
      PySem.W.Frag} {mg : Str → Option Value} {base : Heap}
def spPull : Sp := fun vs H Q _ => ∃ (u : Addr) (m : Int), vs = [.ref u, .int m] ∧ H u = some (UrnO u) ∧ 0 < m ∧ m < 1073741824 ∧ ∀ (r : Int) (H' : Hp), 0 ≤ r → r < m → Same H H' → Q (.int r) H'
abbrev nPull : List Str := ["_law_urn_here", "_law_many", "_law_digit"]
theorem scPull : FnScope nPull ["_law_urn_here", "_law_many"] (defScope sPull) := ⟨rfl, rfl, rfl, by decide +kernel, rfl, by decide +kernel, by decide +kernel⟩
theorem ok_pull {f : Addr} {fd : FuncData} (F : Fun K "_law_pull" "_law_pull" sPull f fd) (T : Bl mg) : FnOk P w K mg base CX0 1 f fd ["_law_urn_here", "_law_many"] spPull := by
  refine F.ok scPull (fun vs H Q E h => ?_) (fun cdv A outer s H vs Q E hr h => ?_)
  · obtain ⟨u, m, rfl, _⟩ := h
    rfl
  · obtain ⟨u, m, rfl, hu, m0, m1, k⟩ := h
    refine ⟨_, pss_urn (pss_cons (ps_if (pt_cmpR op_gt (pe_ix ix_list (pv 0) pe_int (fun _ _ => rfl)) pe_int (nomark _))
        (pss_cons (ps_asg (pe_callB call_divmod (by rfl) T.divmod PyProof.Rows.boot_divmod (pa_cons (pe_ix ix_list (pv 0) pe_int (fun _ _ => rfl)) (pa_cons (pv 1) pa_nil)))
            (pg_tup rfl (pgs_cons (pg_sub (pv 0) pe_int set_list (fun _ => rfl)) (pgs_cons (pg_name (i := 2) scPull.nd rfl (Or.inl rfl)) pgs_nil))))
          (pss_one (ps_ret (pv 2)))) pss_nil)
      (pss_cons (ps_asg (pe_op op_mod (pe_callTy call_int1 (by rfl) T.int PyProof.Rows.boot_int (pa_cons (pe_op op_add (pe_op op_mul (pe_ix ix_list (pv 0) pe_int (fun _ _ => rfl)) pe_int) pe_int) pa_nil)) pe_int) (pg_sub (pv 0) pe_int set_list (fun _ => rfl)))
      (pss_cons (ps_asg (pe_op op_mod (pe_callTy call_int1 (by rfl) T.int PyProof.Rows.boot_int (pa_cons (pe_op op_add (pe_op op_mul (pe_ix ix_list (pv 0) pe_int (fun _ _ => rfl)) pe_int) (pe_ix ix_list (pv 0) pe_int (fun _ _ => rfl))) pa_nil)) pe_int) (pg_sub (pv 0) pe_int set_list (fun _ => rfl)))
      (pss_one (ps_ret (pe_op op_mod (pe_callTy call_int1 (by rfl) T.int PyProof.Rows.boot_int (pa_cons (pe_op op_fdiv (pe_ix ix_list (pv 0) pe_int (fun _ _ => rfl)) pe_int) pa_nil)) (pv 1))))))), ?_⟩
    refine ⟨u, hu, fun a b c B => ?_⟩
    have hq : ∀ (H' : Hp) (r : Int) (a' b' c' : Int), 0 ≤ r → r < m → Bd a' b' c' → (∀ x o, H x = some o → x ≠ u → H' x = some o) → H' u = some (.lst (nums a' b' c')) → Shut u (Q (.int r)) H' := by
      intro H' r a' b' c' r0 r1 B' keep at'
      refine ⟨a', b', c', B', at', k r _ r0 r1 ?_⟩
      intro x o e
      by_cases z : x = u
      · subst z; rw [hu] at e; cases e; exact upd_same
      · rw [upd_ne z]; exact keep x o e z
    have keep0 : ∀ xs x o, H x = some o → x ≠ u → (upd H u (.lst xs)) x = some o := fun xs x o e z => by rw [upd_ne z]; exact e
    refine ⟨_, rfl, u, nums a b c, 0, _, rfl, rfl, SqL.of upd_same, rfl, _, _, rfl, rfl, _, rfl, ?_⟩
    refine ite2 (fun _
          => ?_) (fun _ => ?_)
    · refine ⟨_, rfl, u, nums a b c, 0, _, rfl, rfl, SqL.of upd_same, rfl, _, rfl, a, m, rfl, ⟨m0, m1⟩, fun p hp => ?_⟩
      have npu : p ≠ u := fun z => by rw [z, upd_same] at hp; cases hp
      have npu2 : u ≠ p := fun z => npu z.symm
      refine ⟨p, _, rfl, SqT.of upd_same, rfl, _, _, rfl, ?_⟩
      refine ⟨_, rfl, u, nums a b c, 0, 0, rfl, rfl, by rw [upd_ne npu2, upd_same], rfl, ?_⟩
      refine ⟨_, _, rfl, rfl, ?_⟩
      refine ⟨_, rfl, ?_⟩
      refine hq _ (a % m) (a / m) b c (Int.emod_nonneg _ (by omega)) (Int.emod_lt_of_pos _ m0) ⟨Int.ediv_nonneg B.a0 (by omega), B.b0, B.b1, B.c0, B.c1⟩ (fun x o e z => ?_) upd_same
      rw [upd_ne z, upd_ne (ne_of_none (upd_ne z ▸ e : (upd H u _) x = some o) hp), upd_ne z]
      exact e
    · have b2 := B.b1
      have b3 := B.b0
      have c2 := B.c1
      have c3 := B.c0
      refine ⟨_, rfl, u, nums a b c, 1, _, rfl, rfl, SqL.of upd_same, rfl, _, _, rfl, rfl, Or.inl ⟨by omega, by omega⟩, _, _, rfl, rfl, Or.inl ⟨_, rfl, _, _, rfl, rfl, (by show (0 : Int) < 2147483629; decide), ?_⟩⟩
      refine ⟨_, rfl, u, nums a b c, 1, 1, rfl, rfl, upd_same, rfl, ?_⟩
      rw [upd_upd]
      refine ⟨_, rfl, u, nums a ((b * 37199 + 1201) % 2147483629) c, 2, _, rfl, rfl, SqL.of upd_same, rfl, _, _, rfl, rfl, Or.inl ⟨by omega, by omega⟩, _, rfl, u, nums a ((b * 37199 + 1201) % 2147483629) c, 1, _, rfl, rfl, SqL.of upd_same, rfl, _, _, rfl, rfl, Or.inl ⟨_, rfl, _, _, rfl, rfl, (by show (0 : Int) < 2147483587; decide), ?_⟩⟩
      refine ⟨_, rfl, u, nums a ((b * 37199 + 1201) % 2147483629) c, 2, 2, rfl, rfl, upd_same, rfl, ?_⟩
      rw [upd_upd]
      obtain ⟨b', hb'⟩ : ∃ b', b' = (b * 37199 + 1201) % 2147483629 := ⟨_, rfl⟩
      obtain ⟨c', hc'⟩ : ∃ c', c' = (c * 29443 + b') % 2147483587 := ⟨_, rfl⟩
      have b4 : 0 ≤ b' ∧ b' < 2147483629 := ⟨hb' ▸ Int.emod_nonneg _ (by decide), hb' ▸ Int.emod_lt_of_pos _ (by decide)⟩
      have c4 : 0 ≤ c' ∧ c' < 2147483587 := ⟨hc' ▸ Int.emod_nonneg _ (by decide), hc' ▸ Int.emod_lt_of_pos _ (by decide)⟩
      generalize hH : upd H u _ = H2
      have hu2 : H2 u = some (.lst (nums a b' c')) := by
        rw [← hH, upd_same, hc', hb']
        rfl
      have kp2 : ∀ x o, H x = some o → x ≠ u → H2 x = some o := fun x o e z => by
        rw [← hH, upd_ne z]
        exact e
      refine ⟨_, rfl, u, nums a b' c', 2, _, rfl, rfl, SqL.of hu2, rfl, _, _, rfl, rfl, ⟨by decide, by decide⟩, Or.inl ⟨_, rfl, _, rfl, _, _, rfl, rfl, m0, ?_⟩⟩
      exact hq _ _ a b' c' (Int.emod_nonneg _ (by omega)) (Int.emod_lt_of_pos _ m0) ⟨B.a0, b4.1, by omega, c4.1, by omega⟩ kp2 hu2
end
end K8
namespace K8
open PySem L2 Ur
section
variable {P : Program} {w : World} {K :
      PySem.W.Frag} {mg : Str → Option Value} {base : Heap}
abbrev n_law_urn : List Str := ["_law_script", "_law_lap", "_law_seed", "_law_cell", "_law_own"]
abbrev p_law_urn : List Str := ["_law_script", "_law_lap"]
theorem sc_law_urn : FnScope n_law_urn p_law_urn (defScope sUrn) := ⟨rfl, rfl, rfl, by decide +kernel, rfl, by decide +kernel, by decide +kernel⟩
def spUrn (K : PySem.W.Frag) : Sp := fun vs H Q _ => ∃ (a : Addr) (ns : List Int) (lap : Int), vs = [.ref a, .int lap] ∧ SqL K H a (ns.map V.int) ∧ 0 ≤ lap ∧ lap ≤ 10 ∧
  ∀ (p : Addr) (x y z : Int) (H' : Hp), H p = none → Same H H' → Bd x y z → H' p = some (.lst (nums x y z)) → Q (.ref p) H'
theorem ok_urn {f : Addr} {fd : FuncData} (F : Fun K "_law_urn" "_law_urn" sUrn f fd) (T : Bl mg) : FnOk P w K mg base CX0 1 f fd p_law_urn (spUrn K) := by
  refine F.ok sc_law_urn (fun vs H Q E h => ?_) (fun cdv A outer s H vs Q E hr h => ?_)
  · obtain ⟨a, ns, lap, rfl, _⟩ := h
    rfl
  · obtain ⟨a, ns, lap, rfl, hS, l0, l1, k⟩ := h
    refine ⟨_, (pss_cons (ps_set (i := 2) sc_law_urn.nd rfl (Or.inl rfl) (pe_op op_add pe_int (pe_op op_mul pe_int (pv 1))))
      (pss_cons (ps_for PassesOwn.never rfl (pi_list (pe_slice sl_list (pv 0) po_none (po_some pe_int))) (pg_name (i := 3) sc_law_urn.nd rfl (Or.inl rfl)) (pss_one (ps_set (i := 2) sc_law_urn.nd rfl (Or.inl rfl) (pe_op op_mod (pe_callTy call_int1 (by rfl) T.int PyProof.Rows.boot_int (pa_cons (pe_op op_add (pe_op op_add (pe_op op_mul (pv 2) pe_int) (pe_op op_mod (pe_callTy call_int1 (by rfl) T.int PyProof.Rows.boot_int (pa_cons (pv 3) pa_nil)) pe_int)) pe_int) pa_nil)) pe_int))))
      (pss_cons (ps_set (i := 4) sc_law_urn.nd rfl (Or.inl rfl) (pe_ifExp (pt_cmpR op_lt (pv 1) (pe_callB call_len_seq (by rfl) T.len PySem.boot_len (pa_cons (pv 0) pa_nil)) (nomark _)) (pe_callB call_abs (by rfl) T.abs PyProof.Rows.boot_abs (pa_cons (pe_callTy call_int1 (by rfl) T.int PyProof.Rows.boot_int (pa_cons (pe_ix ix_list (pv 0) (pv 1) (fun _ _ => rfl)) pa_nil)) pa_nil)) pe_int))
      (pss_one (ps_ret (pe_lst (pa_cons (pe_ifExp (pt_cmpR op_ge (pv 4) (pe_op op_pow pe_int pe_int) (nomark _)) (pv 4) pe_int) (pa_cons (pe_op op_mod (pe_callTy call_int1 (by rfl) T.int PyProof.Rows.boot_int (pa_cons (pe_op op_add (pe_op op_add (pe_op op_mul (pv 2) pe_int) (pe_op op_mod (pe_callTy call_int1 (by rfl) T.int PyProof.Rows.boot_int (pa_cons (pv 4) pa_nil)) pe_int)) pe_int) pa_nil)) pe_int) (pa_cons (pe_op op_add (pv 2) pe_int) pa_nil))))))))), ?_⟩
    refine ⟨_, rfl, _, _, rfl, rfl, Or.inl ⟨by decide, by decide⟩, _, _, rfl, rfl, ?_⟩
    refine ⟨_, rfl, 63, rfl, a, ns.map V.int, rfl, hS, fun p hp => ⟨p, rfl, ⟨_, SqL.of upd_same⟩, ?_⟩⟩
    obtain ⟨ms, ec⟩ : ∃ ms : List Int, cutV (ns.map V.int) none (some 63) = ms.map V.int := ⟨(ns.drop _).take _, by unfold cutV; rw [List.map_take, List.map_drop]⟩
    rw [ec]
    refine for_list (K := K) (a := p) (xs := ms.map V.int) (fun i σ H' => ∃ (sd : Int) (v : Option V), σ = [some (.ref a), some (.int lap), some (.int sd), v, none] ∧ 0 ≤ sd ∧ sd < 2147483549 ∧ Same H H' ∧ SqL K H' p (ms.map V.int))
      ⟨60427 + 7001 * lap, none, rfl, by omega, by omega, same_new hp, SqL.of upd_same⟩ (fun i σ H' _ ⟨_, _, _, _, _, _, z⟩ => z) ?_ ?_
    · rintro i y σ H' hi ⟨sd, v, rfl, s0, s1, sm, sq⟩
      obtain ⟨z, _, rfl⟩ := map_at hi
      refine ⟨_, rfl, _, _, rfl, rfl, Or.inl ⟨by omega, by omega⟩, _, rfl, Or.inl ⟨_, rfl, _, _, rfl, rfl, (by show (0 : Int) < 2147483549; decide), _, _, rfl, rfl, _, _, rfl, rfl, Or.inl ⟨_, rfl, _, _, rfl, rfl, (by show (0 : Int) < 2147483549; decide), ?_⟩⟩⟩
      exact ⟨_, _, rfl, Int.emod_nonneg _ (by decide), Int.emod_lt_of_pos _ (by decide), sm, sq⟩
    · rintro σ H' ⟨sd, v, rfl, s0, s1, sm, sq⟩
      have hS' := sm.seq hS
      obtain ⟨j, rfl⟩ := Int.eq_ofNat_of_zero_le l0
      refine ⟨_, rfl, _, rfl, a, _, rfl, Or.inl hS', _, _, rfl, rfl, _, rfl, ?_⟩
      have own0 : ∀ z : Int, 0 ≤ (if z < 0 then -z else z) := fun z => by split <;> omega
      have md : ∀ y : Int, 0 ≤ y % 2147483563 ∧ y % 2147483563 < 2147483563 := fun y => ⟨Int.emod_nonneg _ (by decide), Int.emod_lt_of_pos _ (by decide)⟩
      refine ite2 (fun c
            => ?_) (fun c => ?_)
      · have hj : j < ns.length := by
          have := of_decide_eq_true c
          rw [List.length_map] at this
          omega
        have hat : (ns.map V.int)[j]? = some (V.int ns[j]) := by simp [hj]
        refine ⟨_, rfl, _, rfl, a, _, _, _, rfl, rfl, hS', atI_nat hat, Or.inl ⟨_, rfl, _, rfl, ?_⟩⟩
        refine ⟨_, rfl, _, _, rfl, rfl, ⟨by decide, by decide, by decide⟩, _, _, rfl, rfl, _, rfl, ?_⟩
        generalize ho : (if ns[j] < 0 then -ns[j] else ns[j]) = own
        have o0 : 0 ≤ own := ho ▸ own0 _
        refine ite2 (fun _
              => ?_) (fun _ => ?_)
        · refine ⟨_, rfl, _, rfl, _, _, rfl, rfl, Or.inr ⟨by decide, by decide⟩, _, rfl, Or.inl ⟨_, rfl, _, _, rfl, rfl, (by show (0 : Int) < 2147483563; decide), _, _, rfl, rfl, _, _, rfl, rfl, Or.inl ⟨_, rfl, _, _, rfl, rfl, (by show (0 : Int) < 2147483563; decide), _, rfl, _, _, rfl, rfl, (by show 3 ≤ sizeLine; decide), fun q hq => ?_⟩⟩⟩
          exact k q own _ _ _ (sm.free hq) (sm.trans (same_new hq)) ⟨o0, (md _).1, by have := (md (sd * 41203 + own % 2147483563 + 5)).2; omega, by omega, by omega⟩ upd_same
        · refine ⟨_, rfl, _, _, rfl, rfl, Or.inr ⟨by decide, by decide⟩, _, rfl, Or.inl ⟨_, rfl, _, _, rfl, rfl, (by show (0 : Int) < 2147483563; decide), _, _, rfl, rfl, _, _, rfl, rfl, Or.inl ⟨_, rfl, _, _, rfl, rfl, (by show (0 : Int) < 2147483563; decide), _, rfl, _, _, rfl, rfl, (by show 3 ≤ sizeLine; decide), fun q hq => ?_⟩⟩⟩
          exact k q 0 _ _ _ (sm.free hq) (sm.trans (same_new hq)) ⟨by decide, (md _).1, by have := (md (sd * 41203 + own % 2147483563 + 5)).2; omega, by omega, by omega⟩ upd_same
      · refine ⟨_, rfl, _, _, rfl, rfl, ⟨by decide, by decide, by decide⟩, _, _, rfl, rfl, _, rfl, ?_⟩
        refine ite2 (fun _
              => ?_) (fun _ => ?_)
        · refine ⟨_, rfl, _, rfl, _, _, rfl, rfl, Or.inr ⟨by decide, by decide⟩, _, rfl, Or.inl ⟨_, rfl, _, _, rfl, rfl, (by show (0 : Int) < 2147483563; decide), _, _, rfl, rfl, _, _, rfl, rfl, Or.inl ⟨_, rfl, _, _, rfl, rfl, (by show (0 : Int) < 2147483563; decide), _, rfl, _, _, rfl, rfl, (by show 3 ≤ sizeLine; decide), fun q hq => ?_⟩⟩⟩
          exact k q 0 _ _ _ (sm.free hq) (sm.trans (same_new hq)) ⟨by decide, (md _).1, by have := (md (sd * 41203 + 0 % 2147483563 + 5)).2; omega, by omega, by omega⟩ upd_same
        · refine ⟨_, rfl, _, _, rfl, rfl, Or.inr ⟨by decide, by decide⟩, _, rfl, Or.inl ⟨_, rfl, _, _, rfl, rfl, (by show (0 : Int) < 2147483563; decide), _, _, rfl, rfl, _, _, rfl, rfl, Or.inl ⟨_, rfl, _, _, rfl, rfl, (by show (0 : Int) < 2147483563; decide), _, rfl, _, _, rfl, rfl, (by show 3 ≤ sizeLine; decide), fun q hq => ?_⟩⟩⟩
          exact k q 0 _ _ _ (sm.free hq) (sm.trans (same_new hq)) ⟨by decide, (md _).1, by have := (md (sd * 41203 + 0 % 2147483563 + 5)).2; omega, by omega, by omega⟩ upd_same
end
end K8
namespace Ur
open PySem L2
/-! ### Euclid, by halves -/
theorem gcd_turn {x y B i : Nat} (hy : 0 < y) (hxy : y < x) (h : x * y * 2 ^ i ≤ B) : y * (x % y) * 2 ^ (i + 1) ≤ B := by
  have h1 : 2 * (x % y) ≤ x := by
    have a := Nat.mod_lt x hy
    have b := Nat.mod_add_div x y
    have c : 1 ≤ x / y := (Nat.one_le_div_iff hy).mpr (Nat.le_of_lt hxy)
    have d : y * 1 ≤ y * (x / y) := Nat.mul_le_mul_left _ c
    omega
  have h2 : y * (x % y) * 2 ^ (i + 1) = y * (2 * (x % y)) * 2 ^ i := by
    rw [Nat.pow_succ, Nat.mul_comm (2 ^ i) 2, ← Nat.mul_assoc, Nat.mul_assoc y (x % y) 2, Nat.mul_comm (x % y) 2]
  rw [h2]
  refine Nat.le_trans (Nat.mul_le_mul_right _ (Nat.mul_le_mul_left _ h1)) ?_
  rw [Nat.mul_comm y x]
  exact h
theorem gcd_ends {x y B i : Nat} (hxy : y < x) (h : x * y * 2 ^ i ≤ B) (hB : B < 2 ^ i) : y = 0 := by
  cases y with
  | zero => rfl
  | succ y =>
    have : 1 * 2 ^ i ≤ x * (y + 1) * 2 ^ i := Nat.mul_le_mul_right _ (Nat.mul_pos (by omega) (by omega))
    omega
end Ur
namespace K8
open PySem L2 Ur
abbrev sGcd : Stmt := top 42
abbrev sThin : Stmt := top 43
section
variable {P : Program} {w : World} {K :
      PySem.W.Frag} {mg : Str → Option Value} {base : Heap}
abbrev n_law_gcd : List Str := ["_law_one", "_law_two", "_law_step"]
abbrev p_law_gcd : List Str := ["_law_one", "_law_two"]
theorem sc_law_gcd : FnScope n_law_gcd p_law_gcd (defScope sGcd) := ⟨rfl, rfl, rfl, by decide +kernel, rfl, by decide +kernel, by decide +kernel⟩
def spGcd : Sp := fun vs H Q _ => ∃ a b : Nat, vs = [.int a, .int b] ∧ b < 2 ^ 9000 ∧ Q (.int ((Nat.gcd a b : Nat) : Int)) H
theorem ok_gcd {f : Addr} {fd : FuncData} (F : Fun K "_law_gcd" "_law_gcd" sGcd f fd) (T : Bl mg) : FnOk P w K mg base CX0 1 f fd p_law_gcd spGcd := by
  refine F.ok sc_law_gcd (fun vs H Q E h => ?_) (fun cdv A outer s H vs Q E hr h => ?_)
  · obtain ⟨a, b, rfl, _⟩ := h
    rfl
  · obtain ⟨a, b, rfl, hb, k⟩ := h
    refine ⟨_, (pss_cons (ps_for PassesOwn.never rfl (pi_range1 (by rfl) T.range (pa_cons pe_int pa_nil)) (pg_name (i := 2) sc_law_gcd.nd rfl (Or.inl rfl)) (pss_cons (ps_if (pt_cmpR op_eq (pv 1) pe_int (nomark _)) (pss_one ps_break) pss_nil)
      (pss_one (ps_par (i := 0) (j := 1) rfl sc_law_gcd.nd rfl rfl (by decide) rfl rfl (pa_cons (pv 1) (pa_cons (pe_op op_mod (pe_callTy call_int1 (by rfl) T.int PyProof.Rows.boot_int (pa_cons (pv 0) pa_nil)) (pv 1)) pa_nil)) (by rfl)))))
      (pss_one (ps_ret (pv 0)))), ?_⟩
    have hB : b * b < 2 ^ 19998 := by
      have h1 : b * b < 2 ^ 9000 * 2 ^ 9000 := Nat.mul_lt_mul'' hb hb
      rw [← Nat.pow_add] at h1
      exact Nat.lt_of_lt_of_le h1 (Nat.pow_le_pow_right (by decide) (by decide))
    refine ⟨20000, rfl, by decide, by decide, for_range (lo := 0) (n := 20000) (fun i σ H' => ∃ (x y : Nat) (v : Option V), σ = [some (.int x), some (.int y), v] ∧ H' = H ∧ Nat.gcd x y = Nat.gcd a b ∧
      (i = 0 → x = a ∧ y = b) ∧ (0 < i → y < x ∧ x * y * 2 ^ (i - 1) ≤ b * b)) ⟨a, b, none, rfl, rfl, rfl, fun _ => ⟨rfl, rfl⟩, fun z => absurd z (by decide)⟩ ?_ ?_⟩
    · rintro i σ H' hi ⟨x, y, v, rfl, rfl, hg, h0, h1⟩
      refine ⟨_, rfl,
            rfl, _, rfl, ?_⟩
      refine ite2 (fun c
            => ?_) (fun c => ?_)
      · have e : (y : Int) = 0 := V.int.inj (of_decide_eq_true c)
        have e' : y = 0 := by omega
        subst e'
        rw [Nat.gcd_zero_right] at hg
        refine ⟨_, rfl, ?_⟩
        rw [hg]
        exact k
      · have e : ¬ y = 0 := fun z => c (decide_eq_true (by rw [z]; rfl))
        have hy : 0 < y := Nat.pos_of_ne_zero e
        refine ⟨_, rfl, _, rfl, Or.inl ⟨_, rfl, _, rfl, _, _, rfl, rfl, (by show (0 : Int) < (y : Int); omega), _, _, rfl, ?_⟩⟩
        refine ⟨y, x % y, some (.int (0 + (i : Int))), ?_, rfl, ?_, fun z => absurd z (by omega), fun _ => ⟨Nat.mod_lt _ hy, ?_⟩⟩
        · rw [Int.natCast_emod]
          rfl
        · rw [← hg, Nat.gcd_comm x y]
          exact (Nat.gcd_rec y x).symm ▸ Nat.gcd_comm _ _
        · cases i with
          | zero =>
            obtain ⟨rfl, rfl⟩ := h0 rfl
            have := Nat.mod_lt x hy
            show y * (x % y) * 2 ^ 0 ≤ y * y
            rw [Nat.pow_zero, Nat.mul_one]
            exact Nat.mul_le_mul_left _ (Nat.le_of_lt this)
          | succ i =>
            obtain ⟨h2, h3⟩ := h1 (by omega)
            exact gcd_turn hy h2 h3
    · rintro σ H' ⟨x, y, v, rfl, rfl, hg, h0, h1⟩
      obtain ⟨h2, h3⟩ := h1 (by decide)
      have e' : y = 0 := gcd_ends h2 h3 (Nat.lt_of_lt_of_le hB (Nat.pow_le_pow_right (by decide) (by decide)))
      subst e'
      rw [Nat.gcd_zero_right] at hg
      refine ⟨_, rfl, ?_⟩
      rw [hg]
      exact k
/-! ### thin -/
def gAll (ns : List Int) : Nat := ns.foldl (fun g n => Nat.gcd g n.natAbs) 0
def thin (ns : List Int) : List Int := if gAll ns < 2 then ns else ns.map fun n => n / (gAll ns : Int)
abbrev n_law_thin : List Str := ["_law_row", "_law_common", "_law_number"]
abbrev p_law_thin : List Str := ["_law_row"]
theorem sc_law_thin : FnScope n_law_thin p_law_thin (defScope sThin) := ⟨rfl, rfl, rfl, by decide +kernel, rfl, by decide +kernel, by decide +kernel⟩
def spThin (K : PySem.W.Frag) : Sp := fun vs H Q _ => ∃ (t : Addr) (ns : List Int), vs = [.ref t] ∧ SqT K H t (ns.map V.int) ∧ ns.length ≤ 1000 ∧ (∀ n ∈ ns, n.natAbs < 2 ^ 9000) ∧
  ∀ (p : Addr) (H' : Hp), Same H H' → SqT K H' p ((thin ns).map V.int) → Q (.ref p) H'
theorem take_next {α : Type} {l : List α} {i : Nat} {x : α}
      (h : l[i]? = some x) : l.take (i + 1) = l.take i ++ [x] := by
  obtain ⟨hi, rfl⟩ := List.getElem?_eq_some_iff.mp h
  exact List.take_succ_eq_append_getElem hi
theorem gAll_next {ns : List Int} {i : Nat} {z : Int} (h : ns[i]? = some z) : gAll (ns.take (i + 1)) = Nat.gcd (gAll (ns.take i)) z.natAbs := by
  unfold gAll
  rw [take_next h, List.foldl_append]
  rfl
theorem gAll_big : ∀ (ns : List Int) (g : Nat), g < 2 ^ 9000 → (∀ n ∈ ns, n.natAbs < 2 ^ 9000) → ns.foldl (fun g n => Nat.gcd g n.natAbs) g < 2 ^ 9000
  | [], g, h, _ => h
  | n :: r, g, h, hs => by
    refine gAll_big r _ ?_ fun m hm => hs m (List.mem_cons_of_mem _ hm)
    have hn := hs n List.mem_cons_self
    show Nat.gcd g n.natAbs < 2 ^ 9000
    by_cases z : g = 0
    · rw [z, Nat.gcd_zero_left]; exact hn
    · exact Nat.lt_of_le_of_lt (Nat.gcd_le_left _ (Nat.pos_of_ne_zero z)) h
theorem abs_nat (z : Int) : (if z < 0 then -z else z) = ((z.natAbs : Nat) : Int) := by
  split <;> omega
theorem big0 : 0 < 2 ^ 9000 := Nat.pow_pos (by decide)
theorem ok_thin {f : Addr} {fd : FuncData} (F : Fun K "_law_thin" "_law_thin" sThin f fd) (T : Bl mg) (H_law_gcd : Has P w K mg base "_law_gcd" p_law_gcd 1 spGcd) : FnOk P w K mg base CX0 2 f fd p_law_thin (spThin K) := by
  refine F.ok sc_law_thin (fun vs H Q E h => ?_) (fun cdv A outer s H vs Q E hr h => ?_)
  · obtain ⟨t, ns, rfl, _⟩ := h
    rfl
  · obtain ⟨t, ns, rfl, hS, hl, hb, k⟩ := h
    refine ⟨_, (pss_cons (ps_set (i := 1) sc_law_thin.nd rfl (Or.inr rfl) pe_int)
      (pss_cons (ps_for PassesOwn.never rfl (pi_tup (pv 0)) (pg_name (i := 2) sc_law_thin.nd rfl (Or.inl rfl)) (pss_one (ps_set (i := 1) sc_law_thin.nd rfl (Or.inr rfl) (pe_has H_law_gcd (hr.mono (by decide)) (by rfl) (pa_cons (pv 1) (pa_cons (pe_callB call_abs (by rfl) T.abs PyProof.Rows.boot_abs (pa_cons (pv 2) pa_nil)) pa_nil))))))
      (pss_one (ps_ret (pe_ifExp (pt_cmpR op_lt (pv 1) pe_int (nomark _)) (pe_callTy call_tuple_of (by rfl) T.tuple PyProof.Rows.boot_tuple (pa_cons (pv 0) pa_nil)) (pe_callTy call_tuple_of (by rfl) T.tuple PyProof.Rows.boot_tuple (pa_cons (pe_lc (own := [("_law_number", 2)]) (g := gName 2) (tt := tYes) rfl sc_law_thin.nd (pi_tup (pv 0)) (blkOk_by (N := n_law_thin) (sc := defScope sThin) (by decide +kernel)) (fun _ _ _ _ _ => pg_name (i := 2) sc_law_thin.nd rfl (Or.inl rfl)) (fun _ _ _ _ _ => pts_nil) (fun _ _ _ _ _ => (pe_op op_fdivW (pv 2) (pv 1)))) pa_nil))))))), ?_⟩
    refine ⟨_, rfl, t, rfl, ⟨_, hS⟩, for_tup (K := K) (a := t) (xs := ns.map V.int) (fun i σ H' => ∃ v : Option V, σ = [some (.ref t), some (.int (gAll (ns.take i) : Nat)), v] ∧ H' = H) ⟨none, rfl, rfl⟩ (fun i σ H' _ ⟨_, _, e⟩ => e ▸ hS) ?_ ?_⟩
    · rintro i y σ H' hi ⟨v, rfl, rfl⟩
      obtain ⟨z, hz, rfl⟩ := map_at hi
      have hzb := hb z (List.mem_of_getElem? hz)
      refine ⟨_, rfl, _, rfl, _, rfl, ?_⟩
      refine ⟨gAll (ns.take i), z.natAbs, by rw [← abs_nat]; rfl, hzb, ?_⟩
      refine ⟨some (V.int z), ?_, rfl⟩
      rw [gAll_next hz]
      rfl
    · rintro σ H' ⟨v, rfl, rfl⟩
      have eg : gAll (ns.take (ns.map V.int).length) = gAll ns := by rw [List.length_map, List.take_length]
      rw [eg]
      refine ⟨_, rfl, _, _,
            rfl, rfl, _, rfl, ?_⟩
      refine ite2 (fun c
            => ?_) (fun c => ?_)
      · have c' := of_decide_eq_true c
        refine ⟨_, rfl, t, _, rfl, Or.inr ⟨hS, ?_⟩⟩
        refine k t H' (Same.refl _) ?_
        unfold thin
        rw [if_pos (by omega)]
        exact hS
      · have c' : ¬ gAll ns < 2 := fun z => c (decide_eq_true (by omega))
        have gb : gAll ns < 2 ^ 9000 := gAll_big ns 0 big0 hb
        unfold tCB tCons tNil
        dsimp only
        refine lcT (K := K) (a := t) (xs := ns.map V.int) (fun i y => ∃ z, ns[i]? = some z ∧ y = .int (z / (gAll ns : Int))) (fun R r => ⟨_, rfl, r⟩) hS (by rw [List.length_map]; omega) (fun x => rfl) (fun i x H3 hi _ Q' q' => ?_) (fun D ys H2 hD sm hy e1 e2 => ?_)
        · obtain ⟨z, hz, rfl⟩ := map_at hi
          exact ⟨_, rfl, _, rfl, _, _, rfl, rfl, wide_div (b := 9000) (by omega) (by simpa using gb) (by decide) (by decide), q' _ _ ⟨z, hz, rfl⟩ (Same.refl _)⟩
        · refine ⟨D, ys, rfl, Or.inl ⟨SqL.of hy, fun l hl => ?_⟩⟩
          refine k l _ (sm.trans (same_new hl)) ?_
          have ey : ys = (thin ns).map V.int := by
            unfold thin
            rw [if_neg c']
            apply List.ext_getElem?
            intro i
            cases h : ys[i]? with
            | none =>
              have := List.getElem?_eq_none_iff.mp h
              rw [List.getElem?_eq_none (by simp at e1 ⊢; omega)]
            | some y =>
              obtain ⟨z, hz, rfl⟩ := e2 i y h
              simp [hz]
          rw [← ey]
          exact SqT.of upd_same
end
end K8
namespace K8
open PySem L2 Ur
abbrev sCom : Stmt := top 8
abbrev sWhole : Stmt := top 20
abbrev sWholes : Stmt := top 21
abbrev sPointF : Stmt := top 22
def isFr : List V → Bool
  | [.int n, .int m] => decide (0 < m) && decide (Nat.gcd n.natAbs m.natAbs = 1)
  | _ => false
def isPt : List V → Bool
  | [.int x, .int y, .int w] => decide (0 < w) && decide (Nat.gcd (Nat.gcd x.natAbs y.natAbs) w.natAbs = 1)
  | _ => false
def isDr : List V → Bool
  | [.int n, .int m] => decide (Nat.gcd n.natAbs m.natAbs = 1)
  | _ => false
theorem ns_len {n : Nat} {ns : List Int} (h : decide (V.int ((ns.map V.int).length : Int) = V.int (n : Int)) = true) : ns.length = n := by
  have e := V.int.inj (of_decide_eq_true h)
  rw [List.length_map] at e
  omega
theorem not_len {n : Nat} {ns : List Int} (h : ¬ decide (V.int ((ns.map V.int).length : Int) = V.int (n : Int)) = true) : ns.length ≠ n := fun e => h (decide_eq_true (by rw [List.length_map, e]))
theorem fr_no {ns : List Int} (h : ns.length ≠ 2) : isFr (ns.map V.int) = false := by
  match ns, h with
  | [], _ => rfl
  | [_], _ => rfl
  | _ :: _ :: _ :: _, _ => rfl
theorem dr_no {ns : List Int} (h : ns.length ≠ 2) : isDr (ns.map V.int) = false := by
  match ns, h with
  | [], _ => rfl
  | [_], _ => rfl
  | _ :: _ :: _ :: _, _ => rfl
theorem pt_no {ns : List Int} (h : ns.length ≠ 3) : isPt (ns.map V.int) = false := by
  match ns, h with
  | [], _ => rfl
  | [_], _ => rfl
  | [_, _], _ => rfl
  | _ :: _ :: _ :: _ :: _, _ => rfl
theorem fr_wh : ∀ {xs : List V}, isFr xs = true → xs.all wh = true
  | [.int n, .int m], _ => rfl
theorem dr_wh : ∀ {xs : List V}, isDr xs = true → xs.all wh = true
  | [.int n, .int m], _ => rfl
theorem pt_wh : ∀ {xs : List V}, isPt xs = true → xs.all wh = true
  | [.int x, .int y, .int w], _ => rfl
theorem of_wh {g : List V → Bool} (hg : ∀ {xs : List V}, g xs = true → xs.all wh = true) {xs : List V} (h : xs.all wh = false) : g xs = false := by
  cases e : g xs with
  | false => rfl
  | true => rw [hg e] at h; cases h
section
variable {P : Program} {w : World} {K :
      PySem.W.Frag} {mg : Str → Option Value} {base : Heap}
/-! ### gcds -/
abbrev n_common_divisor : List Str := ["numbers", "found", "number"]
abbrev p_common_divisor : List Str := ["numbers"]
theorem sc_common_divisor : FnScope n_common_divisor p_common_divisor (defScope sCom) := ⟨rfl, rfl, rfl, by decide +kernel, rfl, by decide +kernel, by decide +kernel⟩
def spCom (K : PySem.W.Frag) : Sp := fun vs H Q _ => ∃ (t : Addr) (ns : List Int), vs = [.ref t] ∧ SqT K H t (ns.map V.int) ∧ Q (.int (gAll ns : Nat)) H
theorem ok_com {f : Addr} {fd : FuncData} (F : Fun K "common_divisor" "common_divisor" sCom f fd) (mG : mg "gcd" = some (.builtin "math.gcd")) : FnOk P w K mg base CX0 1 f fd p_common_divisor (spCom K) := by
  refine F.ok sc_common_divisor (fun vs H Q E h => ?_) (fun cdv A outer s H vs Q E hr h => ?_)
  · obtain ⟨t, ns, rfl, _⟩ := h
    rfl
  · obtain ⟨t, ns, rfl, hS, k⟩ := h
    refine ⟨_, (pss_cons (ps_set (i := 1) sc_common_divisor.nd rfl (Or.inl rfl) pe_int)
      (pss_cons (ps_for PassesOwn.never rfl (pi_tup (pv 0)) (pg_name (i := 2) sc_common_divisor.nd rfl (Or.inl rfl)) (pss_one (ps_set (i := 1) sc_common_divisor.nd rfl (Or.inl rfl) (pe_callBfun cr_gcd (by rfl) mG (pa_cons (pv 1) (pa_cons (pv 2) pa_nil))))))
      (pss_one (ps_ret (pv 1))))), ?_⟩
    refine ⟨_, rfl, t, rfl, ⟨_, hS⟩, for_tup (K := K) (a := t) (xs := ns.map V.int) (fun i σ H' => ∃ v : Option V, σ = [some (.ref t), some (.int (gAll (ns.take i) : Nat)), v] ∧ H' = H) ⟨none, rfl, rfl⟩ (fun i σ H' _ ⟨_, _, e⟩ => e ▸ hS) ?_ ?_⟩
    · rintro i y σ H' hi ⟨v, rfl, rfl⟩
      obtain ⟨z, hz, rfl⟩ := map_at hi
      refine ⟨_, rfl, _, rfl, _, _, rfl, some (V.int z), ?_, rfl⟩
      rw [gAll_next hz, Int.natAbs_natCast]
      rfl
    · rintro σ H' ⟨v, rfl, rfl⟩
      rw [List.length_map,
            List.take_length]
      exact ⟨_, rfl, k⟩
/-! ### whole numbers -/
def spWhole (K : PySem.W.Frag) : Sp := fun vs H Q _ => ∃ (x : V) (k : Kd), vs = [x] ∧ OfKd K H x k ∧ Q (.bl (wh x)) H
theorem whole_read {K : PySem.W.Frag} {x : V} {k : Kd} {H : Hp} {Q : VK} (hx : OfKd K H x k) (q : Q (.bl (wh x)) H) :
    tRet (tAndV (tCB (rIsi K) (tCons (tVar 0) (tCons (tC (.ty "int")) tNil))) (tNotV (tCB (rIsi K) (tCons (tVar 0) (tCons (tC (.ty "bool")) tNil))))) { nx := fun _ H' => Q .non H', rt := Q } [some x] H := by
  refine ⟨x, rfl, x, _, _, _, _, rfl, .ty "int", hx, kit_ty (kd_int k), _, rfl, ?_⟩
  have ew := ofKd_wh hx
  refine ite2 (fun c
        => ?_) (fun c => ?_)
  · refine ⟨x, rfl, x, _, _, _, _, rfl, .ty "bool", hx, kit_ty (kd_bool k), _, rfl, ?_⟩
    have : (!(k == Kd.bool)) = wh x := by
      rw [← ew]
      cases k <;> first | rfl | (exact absurd c (by decide))
    rw [this]
    exact q
  · have : false = wh x := by
      rw [← ew]
      cases k <;> first | rfl | (exact absurd rfl c)
    rw [this]
    exact q
abbrev n_is_whole : List Str := ["value"]
theorem sc_is_whole : FnScope n_is_whole n_is_whole (defScope sWhole) := ⟨rfl, rfl, rfl, by decide +kernel, rfl, by decide +kernel, by decide +kernel⟩
theorem ok_whole {f : Addr} {fd : FuncData} (F : Fun K "is_whole" "is_whole" sWhole f fd) (T : Bl mg) : FnOk P w K mg base CX0 1 f fd n_is_whole (spWhole K) := by
  refine F.ok sc_is_whole (fun vs H Q E h => ?_) (fun cdv A outer s H vs Q E hr h => ?_)
  · obtain ⟨x, k, rfl, _⟩ := h
    rfl
  · obtain ⟨x, k, rfl, hx, q⟩ := h
    exact ⟨_, (pss_one (ps_ret (pe_and (pe_callB call_isi (by rfl) T.isinstance PyProof.Rows.boot_isinstance (pa_cons (pv 0) (pa_cons (pe_bltn (v := .ty "int") (by rfl) T.int PyProof.Rows.boot_int rfl) pa_nil))) (pe_one (pe_not (pe_callB call_isi (by rfl) T.isinstance PyProof.Rows.boot_isinstance (pa_cons (pv 0) (pa_cons (pe_bltn (v := .ty "bool") (by rfl) T.bool PyProof.Rows.boot_bool rfl) pa_nil)))))))), whole_read hx q⟩
end
end K8
namespace K8
open PySem L2 Ur
section
variable {P : Program} {w : World} {K :
      PySem.W.Frag} {mg : Str → Option Value} {base : Heap}
abbrev n_wholes_fit : List Str := ["value", "number"]
abbrev p_wholes_fit : List Str := ["value"]
theorem sc_wholes_fit : FnScope n_wholes_fit p_wholes_fit (defScope sWholes) := ⟨rfl, rfl, rfl, by decide +kernel, rfl, by decide +kernel, by decide +kernel⟩
/-- told of a value of any kind -/
def spTold (K : PySem.W.Frag) (g : List V → Bool) : Sp := fun vs H Q _ => ∃ (x : V) (k : Kd) (xs : List V), vs = [x] ∧ Arg K H x k xs ∧ ∀ H' : Hp, Same H H' → Q (.bl (k == .tup && g xs)) H'
theorem kd_ne {k : Kd} {b : Bool} (c : ¬ (k == Kd.tup) = true) : (k == Kd.tup && b) = false := by
  cases h : (k == Kd.tup) with
  | true => exact absurd h c
  | false => rfl
theorem ok_wholes {f : Addr} {fd : FuncData} (F : Fun K "wholes_fit" "wholes_fit" sWholes f fd) (T : Bl mg) (H_is_whole : Has P w K mg base "is_whole" n_is_whole 1 (spWhole K)) : FnOk P w K mg base CX0 2 f fd p_wholes_fit (spTold K fun xs => xs.all wh) := by
  refine F.ok sc_wholes_fit (fun vs H Q E h => ?_) (fun cdv A outer s H vs Q E hr h => ?_)
  · obtain ⟨x, k, xs, rfl, _⟩ := h
    rfl
  · obtain ⟨x, k, xs, rfl, A1, q⟩ := h
    refine ⟨_, (pss_one (ps_ret (pe_and (pe_callB call_isi (by rfl) T.isinstance PyProof.Rows.boot_isinstance (pa_cons (pv 0) (pa_cons (pe_bltn (v := .ty "tuple") (by rfl) T.tuple PyProof.Rows.boot_tuple rfl) pa_nil))) (pe_one (pe_callB (cr_all rfl) (by rfl) T.all PyProof.Rows.boot_all (pa_cons (pe_lc (own := [("number", 1)]) (g := gName 1) (tt := tYes) rfl sc_wholes_fit.nd (pi_tup (pv 0)) (blkOk_by (N := n_wholes_fit) (sc := defScope sWholes) (by decide +kernel)) (fun _ _ _ _ _ => pg_name (i := 1) sc_wholes_fit.nd rfl (Or.inl rfl)) (fun _ _ _ _ _ => pts_nil) (fun _ _ _ _ _ => (pe_has H_is_whole (hr.mono (by decide)) (by rfl) (pa_cons (pv 1) pa_nil)))) pa_nil)))))), ?_⟩
    refine ⟨x, rfl, x, _, _, _, _, rfl, .ty "tuple", A1.ty, kit_ty (kd_tup k), _, rfl, ?_⟩
    refine ite2 (fun c
          => ?_) (fun c => ?_)
    · obtain ⟨a, rfl, hS, hl, hk, hb⟩ := A1.its (by simpa using c)
      unfold tCB tCons tNil
      dsimp only
      refine lcT (K := K) (a := a) (xs := xs) (fun i y => ∃ z, xs[i]? = some z ∧ y = .bl (wh z)) (fun R r => ⟨_, rfl, r⟩) hS (by omega) (fun x => rfl) (fun i z H3 hi sm Q' q' => ?_) (fun D ys H2 hD sm hy e1 e2 => ?_)
      · obtain ⟨l, hl⟩ := (hk z (List.mem_of_getElem? hi)).kd
        exact ⟨z, rfl, z, l, rfl, ofKd_same sm hl, q' _ _ ⟨z, hi, rfl⟩ (Same.refl _)⟩
      · have ey : ys = (xs.map wh).map V.bl := by
          apply List.ext_getElem?
          intro i
          cases h : ys[i]? with
          | none =>
            have := List.getElem?_eq_none_iff.mp h
            rw [List.getElem?_eq_none (by simp at e1 ⊢; omega)]
          | some y =>
            obtain ⟨z, hz, rfl⟩ := e2 i y h
            simp [hz]
        rw [ey] at hy
        refine ⟨D, xs.map wh, rfl, SqL.of hy, ?_⟩
        have e3 : (xs.map wh).all id = (k == Kd.tup && xs.all wh) := by
          rw [c, List.all_map]
          rfl
        rw [e3]
        exact q H2 sm
    · have := q H (Same.refl H)
      rw [kd_ne c] at this
      exact this
abbrev n_value : List Str := ["value"]
theorem sc_point : FnScope n_value n_value (defScope sPointF) := ⟨rfl, rfl, rfl, by decide +kernel, rfl, by decide +kernel, by decide +kernel⟩
/-- where the first test says no -/
theorem no_of {k : Kd} {xs : List V} {g : List V → Bool} (hg : ∀ {xs : List V}, g xs = true → xs.all wh = true) (c : ¬ (k == Kd.tup && (fun xs => xs.all wh) xs) = true) : (k == .tup && g xs) = false := by
  cases h : (k == Kd.tup) with
  | false => rfl
  | true =>
    rw [h, Bool.true_and] at c
    rw [of_wh hg (by simpa using c)]
    rfl
theorem ok_pointF {f : Addr} {fd : FuncData} (F : Fun K "point_fits" "point_fits" sPointF f fd) (T : Bl mg) (H_common_divisor : Has P w K mg base "common_divisor" p_common_divisor 1 (spCom K)) (H_wholes_fit : Has P w K mg base "wholes_fit" p_wholes_fit 2 (spTold K fun xs => xs.all wh)) : FnOk P w K mg base CX0 3 f fd n_value (spTold K isPt) := by
  refine F.ok sc_point (fun vs H Q E h => ?_) (fun cdv A outer s H vs Q E hr h => ?_)
  · obtain ⟨x, k, xs, rfl, _⟩ := h
    rfl
  · obtain ⟨x, k, xs, rfl, A1, q⟩ := h
    refine ⟨_, (pss_one (ps_ret (pe_and (pe_has H_wholes_fit (hr.mono (by decide)) (by rfl) (pa_cons (pv 0) pa_nil)) (pe_and (pe_cmpR op_eq (pe_callB call_len_seq (by rfl) T.len PySem.boot_len (pa_cons (pv 0) pa_nil)) pe_int (nomark _)) (pe_and (pe_cmpR op_gt (pe_ix ix_tup (pv 0) pe_int (fun _ _ => rfl)) pe_int (nomark _)) (pe_one (pe_cmpR op_eq (pe_has H_common_divisor (hr.mono (by decide)) (by rfl) (pa_cons (pv 0) pa_nil)) pe_int (nomark _)))))))), ?_⟩
    refine ⟨x, rfl, x, k, xs, rfl, A1, fun H1 s1 => ⟨_, rfl, ?_⟩⟩
    have no : (k == .tup && isPt xs) = false → Q (.bl false) H1 := fun e => by
      have := q H1 s1
      rw [e] at this
      exact this
    refine ite2 (fun c => ?_) (fun c => no (no_of pt_wh c))
    rw [Bool.and_eq_true] at c
    obtain ⟨a, rfl, hS, _, _, _⟩ := (A1.same s1).its (by simpa using c.1)
    obtain ⟨ns, rfl⟩ := all_wh c.2
    refine ⟨_, rfl, a, _, rfl, Or.inr hS, rfl, _, rfl, ?_⟩
    refine ite2 (fun c2 => ?_) (fun c2 => no (by rw [pt_no (not_len (n := 3) c2), Bool.and_false]))
    match ns, ns_len (n := 3) c2, q, no, hS with
    | [n, m, l], _, q, no, hS =>
      refine ⟨_, rfl, a, _, 2, _, rfl, rfl, hS, rfl, _, _, rfl, rfl, _, rfl, ?_⟩
      refine ite2 (fun c3 => ?_) (fun c3 => ?_)
      · refine ⟨_, rfl, a, [n, m, l], rfl, hS, rfl, ?_⟩
        have := q H1 s1
        have e : (k == Kd.tup && isPt ([n, m, l].map V.int)) = decide (V.int (gAll [n, m, l] : Nat) = V.int 1) := by
          rw [c.1]
          show (decide (0 < l) && decide (Nat.gcd (Nat.gcd n.natAbs m.natAbs) l.natAbs = 1)) = _
          rw [c3, Bool.true_and]
          show _ = decide (V.int ((Nat.gcd (Nat.gcd (Nat.gcd 0 n.natAbs) m.natAbs) l.natAbs : Nat) : Int) = V.int 1)
          rw [Nat.gcd_zero_left]
          refine decide_eq_decide.mpr ⟨fun e => by rw [e]; rfl, fun e => ?_⟩
          have := V.int.inj e
          omega
        rw [e] at this
        exact this
      · refine no ?_
        rw [c.1]
        show (decide (0 < l) && _) = false
        rw [Bool.eq_false_iff.mpr c3]
        rfl
/-! ### the module's own -/
theorem pass_read {x : V} {k : Kd} {xs : List V} {g : List V → Bool} {H : Hp} {Q : VK} (A1 : Arg K H x k xs) (q : ∀ H' : Hp, Same H H' → Q (.bl (k == .tup && g xs)) H') :
    tRet (tCall (spTold K g) [] E0 (tCons (tVar 0) tNil)) { nx := fun _ H' => Q .non H', rt := Q } [some x] H := ⟨x, rfl, x, k, xs, rfl, A1, q⟩
end
end K8
namespace K8
open PySem L2 Ur
/-! ### plain -/
theorem thin_one {ns : List Int} (h : gAll ns = 1) : thin ns = ns := by
  unfold thin
  rw [if_pos (by omega)]
theorem div_ne {g : Nat} {z : Int} (h2 : 2 ≤ g) (hd : g ∣ z.natAbs) (hz : z ≠ 0) : z / (g : Int) ≠ z := by
  intro e
  obtain ⟨q, hq⟩ := hd
  have hdv : (g : Int) ∣ z := Int.ofNat_dvd_left.mpr ⟨q, hq⟩
  have h3 := Int.ediv_mul_cancel hdv
  rw [e] at h3
  have h4 : z * (g : Int) = z * 1 := by rw [h3, Int.mul_one]
  have h5 := Int.eq_of_mul_eq_mul_left hz h4
  omega
theorem gAll_two (a b : Int) : gAll [a, b] = Nat.gcd a.natAbs b.natAbs := by
  show Nat.gcd (Nat.gcd 0 a.natAbs) b.natAbs = _
  rw [Nat.gcd_zero_left]
theorem gAll_three (a b c : Int) : gAll [a, b, c] = Nat.gcd (Nat.gcd a.natAbs b.natAbs) c.natAbs := by
  show Nat.gcd (Nat.gcd (Nat.gcd 0 a.natAbs) b.natAbs) c.natAbs = _
  rw [Nat.gcd_zero_left]
theorem spot_is {x y z : Int} (hz : 0 < z) : (thin [x, y, z] = [x, y, z]) ↔ Nat.gcd (Nat.gcd x.natAbs y.natAbs) z.natAbs = 1 := by
  have g0 : 0 < gAll [x, y, z] := by
    rw [gAll_three]
    exact Nat.gcd_pos_of_pos_right _ (by omega)
  constructor
  · intro e
    rw [← gAll_three]
    refine Classical.byContradiction fun h1 => ?_
    unfold thin at e
    rw [if_neg (by omega)] at e
    have e3 : z / ((gAll [x, y, z] : Nat) : Int) = z := by
      have := congrArg (fun l => l[2]?) e
      exact Option.some.inj this
    refine div_ne (by omega) ?_ (by omega) e3
    rw [gAll_three]
    exact Nat.gcd_dvd_right _ _
  · intro h
    exact thin_one (by rw [gAll_three]; exact h)
theorem aim_is {x y : Int} (h0 : ¬ (x = 0 ∧ y = 0)) : (thin [x, y] = [x, y]) ↔ Nat.gcd x.natAbs y.natAbs = 1 := by
  have g0 : 0 < gAll [x, y] := by
    rw [gAll_two]
    rcases Nat.eq_zero_or_pos (Nat.gcd x.natAbs y.natAbs) with h | h
    · rw [Nat.gcd_eq_zero_iff] at h
      exact absurd ⟨by omega, by omega⟩ h0
    · exact h
  constructor
  · intro e
    rw [← gAll_two]
    refine Classical.byContradiction fun h1 => ?_
    unfold thin at e
    rw [if_neg (by omega)] at e
    have e1 : x / ((gAll [x, y] : Nat) : Int) = x := Option.some.inj (congrArg (fun l => l[0]?) e)
    have e2 : y / ((gAll [x, y] : Nat) : Int) = y := Option.some.inj (congrArg (fun l => l[1]?) e)
    by_cases hx : x = 0
    · refine div_ne (by omega) ?_ (fun hy => h0 ⟨hx, hy⟩) e2
      rw [gAll_two]
      exact Nat.gcd_dvd_right _ _
    · refine div_ne (by omega) ?_ hx e1
      rw [gAll_two]
      exact Nat.gcd_dvd_left _ _
  · intro h
    exact thin_one (by rw [gAll_two]; exact h)
section
variable {P : Program} {w : World} {K :
      PySem.W.Frag} {mg : Str → Option Value} {base : Heap}
def areB (k : Kd) (xs : List V) (m : Nat) : Bool := k == .tup && (decide (xs.length = m) && xs.all wh)
def spAre (K : PySem.W.Frag) : Sp := fun vs H Q _ => ∃ (x : V) (k : Kd) (xs : List V) (m : Nat), vs = [x, .int (m : Int)] ∧ Arg K H x k xs ∧ ∀ H' : Hp, Same H H' → Q (.bl (areB k xs m)) H'
theorem areB_yes {k : Kd} {xs : List V} {m : Nat} (h : areB k xs m = true) : k = .tup ∧ xs.length = m ∧ ∃ ns : List Int, xs = ns.map V.int := by
  unfold areB at h
  rw [Bool.and_eq_true, Bool.and_eq_true] at h
  exact ⟨by simpa using h.1, of_decide_eq_true h.2.1, all_wh h.2.2⟩
theorem areB_no {k : Kd} {xs : List V} {m : Nat} {g : List V → Bool} (h : ¬ areB k xs m = true) (hw : g xs = true → xs.length = m ∧ xs.all wh = true) : (k == .tup && g xs) = false := by
  cases hk : (k == Kd.tup) with
  | false => rfl
  | true =>
    cases hg : g xs with
    | false => rfl
    | true =>
      obtain ⟨h1, h2⟩ := hw hg
      refine absurd ?_ h
      unfold areB
      rw [hk, decide_eq_true h1, h2]
      rfl
theorem fr_len : ∀ {xs : List V}, isFr xs = true → xs.length = 2 ∧ xs.all wh = true
  | [.int n, .int m], _ => ⟨rfl, rfl⟩
theorem dr_len : ∀ {xs : List V}, isDr xs = true → xs.length = 2 ∧ xs.all wh = true
  | [.int n, .int m], _ => ⟨rfl, rfl⟩
theorem pt_len : ∀ {xs : List V}, isPt xs = true → xs.length = 3 ∧ xs.all wh = true
  | [.int x, .int y, .int w], _ => ⟨rfl, rfl⟩
abbrev n_lthing : List Str := ["_law_thing_here"]
theorem mem_at {ns : List Int} {i : Nat} {z : Int} (h : ns[i]? = some z) : V.int z ∈ ns.map V.int := List.mem_map_of_mem (List.mem_of_getElem? h)
end
end K8
namespace K8
open PySem L2 Ur
section
variable {P : Program} {w : World} {K :
      PySem.W.Frag} {mg : Str → Option Value} {base : Heap}
abbrev p_law_any : List Str := ["_law_urn_here", "_law_some"]
theorem sc_law_any : FnScope p_law_any p_law_any (defScope sAny) := ⟨rfl, rfl, rfl, by decide +kernel, rfl, by decide +kernel, by decide +kernel⟩
def spAny : Sp := fun vs H Q _ => ∃ (u l : Addr) (xs : List V), vs = [.ref u, .ref l] ∧ H u = some (UrnO u) ∧ H l = some (.lst xs) ∧ 0 < xs.length ∧ xs.length ≤ 1000 ∧ ∀ (x : V) (H' : Hp), x ∈ xs → Same H H' → Q x H'
theorem ok_any {f : Addr} {fd : FuncData} (F : Fun K "_law_any" "_law_any" sAny f fd) (T : Bl mg) (H_law_pull : Has P w K mg base "_law_pull" ["_law_urn_here", "_law_many"] 1 spPull) : FnOk P w K mg base CX0 2 f fd p_law_any spAny := by
  refine F.ok sc_law_any (fun vs H Q E h => ?_) (fun cdv A outer s H vs Q E hr h => ?_)
  · obtain ⟨u, l, xs, rfl, _⟩ := h
    rfl
  · obtain ⟨u, l, xs, rfl, hu, hl, h0, h1, q⟩ := h
    refine ⟨_, (pss_one (ps_ret (pe_ix ix_list (pv 1) (pe_has H_law_pull (hr.mono (by decide)) (by rfl) (pa_cons (pv 0) (pa_cons (pe_callB call_len_seq (by rfl) T.len PySem.boot_len (pa_cons (pv 1) pa_nil)) pa_nil))) (fun _ _ => rfl)))), ?_⟩
    refine ⟨_, rfl, _, rfl, _, rfl, l, xs, rfl, Or.inl (SqL.of hl), u, _, rfl, hu, by omega, by omega, fun r H1 r0 r1 s1 => ?_⟩
    obtain ⟨j, rfl⟩ := Int.eq_ofNat_of_zero_le r0
    have hj : j < xs.length := by omega
    exact ⟨l, xs, _, _, rfl, rfl, SqL.of (s1 _ _ hl), atI_nat (List.getElem?_eq_getElem hj), q _ H1 (List.getElem_mem hj) s1⟩
abbrev p_law_num : List Str := ["_law_urn_here", "_law_high"]
theorem sc_law_num : FnScope p_law_num p_law_num (defScope sNum) := ⟨rfl, rfl, rfl, by decide +kernel, rfl, by decide +kernel, by decide +kernel⟩
def spNum : Sp := fun vs H Q _ => ∃ (u : Addr) (m : Int), vs = [.ref u, .int m] ∧ H u = some (UrnO u) ∧ 0 ≤ m ∧ m ≤ 500000000 ∧ ∀ (r : Int) (H' : Hp), -m ≤ r → r ≤ m → Same H H' → Q (.int r) H'
theorem ok_num {f : Addr} {fd : FuncData} (F : Fun K "_law_num" "_law_num" sNum f fd) (H_law_pull : Has P w K mg base "_law_pull" ["_law_urn_here", "_law_many"] 1 spPull) : FnOk P w K mg base CX0 2 f fd p_law_num spNum := by
  refine F.ok sc_law_num (fun vs H Q E h => ?_) (fun cdv A outer s H vs Q E hr h => ?_)
  · obtain ⟨u, m, rfl, _⟩ := h
    rfl
  · obtain ⟨u, m, rfl, hu, h0, h1, q⟩ := h
    refine ⟨_, (pss_one (ps_ret (pe_op op_sub (pe_has H_law_pull (hr.mono (by decide)) (by rfl) (pa_cons (pv 0) (pa_cons (pe_op op_add (pe_op op_mul pe_int (pv 1)) pe_int) pa_nil))) (pv 1)))), ?_⟩
    refine ⟨_, rfl, _, rfl, _, _, rfl, rfl, Or.inl ⟨by decide, by decide⟩, _, _, rfl, rfl, u, _, rfl, hu, by omega, by omega, fun r H1 r0 r1 s1 => ?_⟩
    exact ⟨_, rfl, _, _, rfl, rfl, q _ H1 (by omega) (by omega) s1⟩
abbrev p_law_laps : List Str := ["_law_script"]
theorem sc_law_laps : FnScope p_law_laps p_law_laps (defScope sLaps) := ⟨rfl, rfl, rfl, by decide +kernel, rfl, by decide +kernel, by decide +kernel⟩
def spLaps (K : PySem.W.Frag) : Sp := fun vs H Q _ => ∃ (a : Addr) (xs : List V), vs = [.ref a] ∧ SqL K H a xs ∧ ∀ n : Int, 2 ≤ n → n ≤ 3 → Q (.int n) H
theorem ok_laps {f : Addr} {fd : FuncData} (F : Fun K "_law_laps" "_law_laps" sLaps f fd) (T : Bl mg) : FnOk P w K mg base CX0 1 f fd p_law_laps (spLaps K) := by
  refine F.ok sc_law_laps (fun vs H Q E h => ?_) (fun cdv A outer s H vs Q E hr h => ?_)
  · obtain ⟨a, xs, rfl, _⟩ := h
    rfl
  · obtain ⟨a, xs, rfl, hS, q⟩ := h
    refine ⟨_, (pss_one (ps_ret (pe_callB (call_max2 rfl) (by rfl) T.max PyProof.Rows.boot_max (pa_cons pe_int (pa_cons (pe_callB (call_min2 rfl) (by rfl) T.min PyProof.Rows.boot_min (pa_cons (pe_callB call_len_seq (by rfl) T.len PySem.boot_len (pa_cons (pv 0) pa_nil)) (pa_cons pe_int pa_nil))) pa_nil))))), ?_⟩
    refine ⟨_, rfl, a, xs, rfl, Or.inl hS, _, _, rfl, _, _, rfl, ?_⟩
    exact q _ (by split <;> split at * <;> omega) (by split <;> split at * <;> omega)
/-! ### what stands in the row -/
/-- the items of a row as far as they are known -/
structure Row (K : PySem.W.Frag) (H : Hp) (zs : List V) : Prop where
  few : zs.length ≤ 5
  its : ∀ y ∈ zs, It K H y
  big : ∀ i, V.int i ∈ zs → i.natAbs < 2 ^ 9000
theorem Row.same {K : PySem.W.Frag} {H H' : Hp} {zs : List V} (s : Same H H') (r : Row K H zs) : Row K H' zs := ⟨r.few, fun y hy => (r.its y hy).same s, r.big⟩
theorem big_of {i : Int} (h : i.natAbs ≤ 10 ^ 13) : i.natAbs < 2 ^ 9000 :=
  Nat.lt_of_le_of_lt h (Nat.lt_of_lt_of_le (by decide : 10 ^ 13 < 2 ^ 50) (Nat.pow_le_pow_right (by decide) (by decide)))
theorem it_int {K : PySem.W.Frag} {H : Hp} (i : Int) : It K H (.int i) := ⟨⟨.int, .base (.int i)⟩, .int i, .int i, rfl, Nat.zero_le _⟩
theorem it_bl {K : PySem.W.Frag} {H : Hp} (b : Bool) : It K H (.bl b) := ⟨⟨.bool, .base (.bl b)⟩, .bool b, .bl b, rfl, Nat.zero_le _⟩
theorem it_non {K : PySem.W.Frag} {H : Hp} : It K H .non := ⟨⟨.non, .base .non⟩, .none, .non, rfl, Nat.zero_le _⟩
theorem it_str {K : PySem.W.Frag} {H : Hp} {x : Str} (h : PyData.canLay0 (.str x) = true) : It K H (.str x) := ⟨⟨.str, .base (.str x)⟩, .str x, .str x, h, Nat.zero_le _⟩
theorem it_tup {K : PySem.W.Frag} {H : Hp} {a : Addr} {ns : List Int} (h : SqT K H a (ns.map V.int)) : It K H (.ref a) :=
  ⟨⟨.tup, tup_kd h⟩, _, dp_ints h, lay_ints ns, by show PyData.depthAll _ + 1 ≤ 8; rw [depth_ints]; decide⟩
theorem row_ints {K : PySem.W.Frag} {H : Hp} {ns : List Int} (hl : ns.length ≤ 5) (hb : ∀ n ∈ ns, n.natAbs ≤ 10 ^ 13) : Row K H (ns.map V.int) := by
  refine ⟨by simpa using hl, fun y hy => ?_, fun i hi => ?_⟩
  · obtain ⟨n, _, rfl⟩ := List.mem_map.mp hy
    exact it_int n
  · obtain ⟨n, hn, e⟩ := List.mem_map.mp hi
    cases e
    exact big_of (hb _ hn)
theorem arg_tup {K : PySem.W.Frag} {H : Hp} {a : Addr} {zs : List V} (h : SqT K H a zs) (r : Row K H zs) : Arg K H (.ref a) .tup zs :=
  ⟨tup_kd h, fun _ => ⟨a, rfl, h, Nat.le_trans r.few (by decide), r.its, r.big⟩⟩
theorem arg_of {K : PySem.W.Frag} {H : Hp} {x : V} {k : Kd} (h : OfKd K H x k) (hk : k ≠ .tup) : Arg K H x k [] := ⟨h, fun e => absurd e hk⟩
theorem ints_of {ys : List V} {m : Int} (h : ∀ (i : Nat) (y : V), ys[i]? = some y → ∃ z : Int, y = .int z ∧ -m ≤ z ∧ z ≤ m) : ∃ ns : List Int, ys = ns.map V.int ∧ ∀ n ∈ ns, -m ≤ n ∧ n ≤ m := by
  induction ys with
  | nil => exact ⟨[], rfl, fun _ h => nomatch h⟩
  | cons y r ih =>
    obtain ⟨ns, rfl, h2⟩ := ih fun i y hi => h (i + 1) y (by simpa using hi)
    obtain ⟨z, rfl, hz⟩ := h 0 y rfl
    refine ⟨z :: ns, rfl, fun n hn => ?_⟩
    rcases List.mem_cons.mp hn with rfl | hn
    · exact hz
    · exact h2 n hn
/-- an int out of a written menu -/
theorem menu {x : V} {l : List Int} {lo hi : Int} (h : x ∈ l.map V.int) (hb : ∀ i ∈ l, lo ≤ i ∧ i ≤ hi) : ∃ i, x = .int i ∧ lo ≤ i ∧ i ≤ hi := by
  obtain ⟨i, h1, rfl⟩ := List.mem_map.mp h
  exact ⟨i, rfl, hb i h1⟩
/-- behind the first test: where the row stands, what is known of its items -/
def Mid1 (K : PySem.W.Frag) (H : Hp) (u : Addr) (h kd fc : Int) (σ : L2.St) (H' : Hp) : Prop := ∃ (D : Addr) (zs : List V) (v w : Option V), σ = [some (.ref u), some (.int h), some (.ref D), some (.int kd), some (.int fc), v, w] ∧ Same H H' ∧ H D = none ∧ H' D = some (.lst zs) ∧ Row K H' zs ∧
  (kd ≠ 0 → ∃ ns : List Int, zs = ns.map V.int ∧ ∀ n ∈ ns, -1000000 ≤ n ∧ n ≤ 1000000)
def Mid2 (K : PySem.W.Frag) (H : Hp) (u : Addr) (h kd fc : Int) (σ : L2.St) (H' : Hp) : Prop := ∃ (D : Addr) (zs : List V) (v w : Option V), σ = [some (.ref u), some (.int h), some (.ref D), some (.int kd), some (.int fc), v, w] ∧ Same H H' ∧ H' D = some (.lst zs) ∧ Row K H' zs
/-! ### thing -/
abbrev n_law_thing : List Str := ["_law_urn_here", "_law_high", "_law_row", "_law_kind", "_law_factor", "_law_step", "_law_number"]
abbrev p_law_thing : List Str := ["_law_urn_here"]
def spThing (K : PySem.W.Frag) : Sp := fun vs H Q _ => ∃ u : Addr, vs = [.ref u] ∧ H u = some (UrnO u) ∧ ∀ (x : V) (k : Kd) (xs : List V) (H' : Hp), Same H H' → Arg K H' x k xs → Q x H'
end
end K8
namespace K8
open PySem L2 Ur
/-! ### points as lists of three ints, plain -/
theorem thin_eq {ns : List Int} (h : 0 < gAll ns) : thin ns = ns.map fun n => n / (gAll ns : Int) := by
  unfold thin
  split
  · have : gAll ns = 1 := by omega
    rw [this]
    show ns = ns.map fun n => n / 1
    simp
  · rfl
theorem gAll_2 (a b : Int) : gAll [a, b] = Nat.gcd a.natAbs b.natAbs := by
  show Nat.gcd (Nat.gcd 0 a.natAbs) b.natAbs = _
  rw [Nat.gcd_zero_left]
theorem gAll_3 (a b c : Int) : gAll [a, b, c] = Nat.gcd (Nat.gcd a.natAbs b.natAbs) c.natAbs := by
  show Nat.gcd (Nat.gcd (Nat.gcd 0 a.natAbs) b.natAbs) c.natAbs = _
  rw [Nat.gcd_zero_left]
theorem g3_pos {x y w : Int} (h : 0 < w) : 0 < gAll [x, y, w] := by
  rw [gAll_3]
  exact Nat.gcd_pos_of_pos_right _ (by omega)
theorem g2_pos {x w : Int} (h : 0 < w) : 0 < gAll [x, w] := by
  rw [gAll_2]
  exact Nat.gcd_pos_of_pos_right _ (by omega)
theorem ex_div {g : Nat} {x : Int} (h : g ∣ x.natAbs) : ∃ q : Int, x = (g : Int) * q := Int.ofNat_dvd_left.mpr h
/-- thin, by what it is multiplied with -/
theorem thin3 {x y w : Int} (h : 0 < w) : ∃ (g p q r : Int), 0 < g ∧ x = g * p ∧ y = g * q ∧ w = g * r ∧ thin [x, y, w] = [p, q, r] ∧ Nat.gcd (Nat.gcd p.natAbs q.natAbs) r.natAbs = 1 := by
  have hg := g3_pos (x := x) (y := y) h
  have e := thin_eq hg
  obtain ⟨p, hp⟩ := ex_div (g := gAll [x, y, w]) (x := x) (by rw [gAll_3]; exact Nat.dvd_trans (Nat.gcd_dvd_left _ _) (Nat.gcd_dvd_left _ _))
  obtain ⟨q, hq⟩ := ex_div (g := gAll [x, y, w]) (x := y) (by rw [gAll_3]; exact Nat.dvd_trans (Nat.gcd_dvd_left _ _) (Nat.gcd_dvd_right _ _))
  obtain ⟨r, hr⟩ := ex_div (g := gAll [x, y, w]) (x := w) (by rw [gAll_3]; exact Nat.gcd_dvd_right _ _)
  have h3 := gAll_3 x y w
  generalize gAll [x, y, w] = g at *
  have hg' : (g : Int) ≠ 0 := by omega
  refine ⟨g, p, q, r, by omega, hp, hq, hr, ?_, ?_⟩
  · rw [e]
    show [x / (g : Int), y / (g : Int), w / (g : Int)] = _
    rw [hp, hq, hr, Int.mul_ediv_cancel_left _ hg', Int.mul_ediv_cancel_left _ hg', Int.mul_ediv_cancel_left _ hg']
  · rw [hp, hq, hr, Int.natAbs_mul, Int.natAbs_mul, Int.natAbs_mul, Int.natAbs_natCast, Nat.gcd_mul_left, Nat.gcd_mul_left] at h3
    have : g * 1 = g * Nat.gcd (Nat.gcd p.natAbs q.natAbs) r.natAbs := by rw [Nat.mul_one]; exact h3
    exact (Nat.eq_of_mul_eq_mul_left hg this).symm
theorem thin2 {x w : Int} (h : 0 < w) : ∃ (g p r : Int), 0 < g ∧ x = g * p ∧ w = g * r ∧ thin [x, w] = [p, r] ∧ Nat.gcd p.natAbs r.natAbs = 1 := by
  have hg := g2_pos (x := x) h
  have e := thin_eq hg
  obtain ⟨p, hp⟩ := ex_div (g := gAll [x, w]) (x := x) (by rw [gAll_2]; exact Nat.gcd_dvd_left _ _)
  obtain ⟨r, hr⟩ := ex_div (g := gAll [x, w]) (x := w) (by rw [gAll_2]; exact Nat.gcd_dvd_right _ _)
  have h3 := gAll_2 x w
  generalize gAll [x, w] = g at *
  have hg' : (g : Int) ≠ 0 := by omega
  refine ⟨g, p, r, by omega, hp, hr, ?_, ?_⟩
  · rw [e]
    show [x / (g : Int), w / (g : Int)] = _
    rw [hp, hr, Int.mul_ediv_cancel_left _ hg', Int.mul_ediv_cancel_left _ hg']
  · rw [hp, hr, Int.natAbs_mul, Int.natAbs_mul, Int.natAbs_natCast, Nat.gcd_mul_left] at h3
    have : g * 1 = g * Nat.gcd p.natAbs r.natAbs := by rw [Nat.mul_one]; exact h3
    exact (Nat.eq_of_mul_eq_mul_left hg this).symm
theorem pos_of {g r : Int} (hg : 0 < g) (h : 0 < g * r) : 0 < r := Int.pos_of_mul_pos_right h hg
theorem abs_le {g p : Int} {n : Nat} (hg : 0 < g) (h : (g * p).natAbs ≤ n) : p.natAbs ≤ n := by
  rw [Int.natAbs_mul] at h
  have : 1 * p.natAbs ≤ g.natAbs * p.natAbs := Nat.mul_le_mul_right _ (by omega)
  omega
/-- a point's three numbers: reduced, the last above 0, none above n -/
structure PtL (n : Nat) (a : List Int) (x y w : Int) : Prop where
  eq : a = [x, y, w]
  pos : 0 < w
  red : Nat.gcd (Nat.gcd x.natAbs y.natAbs) w.natAbs = 1
  bx : x.natAbs ≤ n
  bby : y.natAbs ≤ n
  bw : w.natAbs ≤ n
structure FrL (n : Nat) (a : List Int) (t b : Int) : Prop where
  eq : a = [t, b]
  pos : 0 < b
  red : Nat.gcd t.natAbs b.natAbs = 1
  bt : t.natAbs ≤ n
  bb : b.natAbs ≤ n
theorem pt_thin {x y w : Int} {n : Nat} (h : 0 < w) (hx : x.natAbs ≤ n) (hy : y.natAbs ≤ n) (hw : w.natAbs ≤ n) : ∃ (g p q r : Int), 0 < g ∧ x = g * p ∧ y = g * q ∧ w = g * r ∧ PtL n (thin [x, y, w]) p q r := by
  obtain ⟨g, p, q, r, g0, e1, e2, e3, e4, e5⟩ := thin3 (x := x) (y := y) h
  exact ⟨g, p, q, r, g0, e1, e2, e3, ⟨e4, pos_of g0 (e3 ▸ h), e5, abs_le g0 (e1 ▸ hx), abs_le g0 (e2 ▸ hy), abs_le g0 (e3 ▸ hw)⟩⟩
theorem fr_thin {x w : Int} {n : Nat} (h : 0 < w) (hx : x.natAbs ≤ n) (hw : w.natAbs ≤ n) : ∃ (g p r : Int), 0 < g ∧ x = g * p ∧ w = g * r ∧ FrL n (thin [x, w]) p r := by
  obtain ⟨g, p, r, g0, e1, e3, e4, e5⟩ := thin2 (x := x) h
  exact ⟨g, p, r, g0, e1, e3, ⟨e4, pos_of g0 (e3 ▸ h), e5, abs_le g0 (e1 ▸ hx), abs_le g0 (e3 ▸ hw)⟩⟩
/-- a point times a number above 0, made thin, is the point -/
theorem thin_mul {x y w k : Int} (hk : 0 < k) (hw : 0 < w) (h : Nat.gcd (Nat.gcd x.natAbs y.natAbs) w.natAbs = 1) : thin [k * x, k * y, k * w] = [x, y, w] := by
  have hg : gAll [k * x, k * y, k * w] = k.natAbs := by
    rw [gAll_3, Int.natAbs_mul, Int.natAbs_mul, Int.natAbs_mul, Nat.gcd_mul_left, Nat.gcd_mul_left, h, Nat.mul_one]
  rw [thin_eq (by rw [hg]; omega), hg]
  have ek : ((k.natAbs : Nat) : Int) = k := by omega
  have k0 : k ≠ 0 := by omega
  rw [ek]
  show [k * x / k, k * y / k, k * w / k] = _
  rw [Int.mul_ediv_cancel_left _ k0, Int.mul_ediv_cancel_left _ k0, Int.mul_ediv_cancel_left _ k0]
def sumL : List Int → List Int → List Int
  | [x, y, w], [u, v, z] => thin [x * z + u * w, y * z + v * w, w * z]
  | _, _ => []
def wayL : List Int → List Int → List Int
  | [x, y, w], [u, v, z] => thin [u * w - x * z, v * w - y * z, w * z]
  | _, _ => []
def byL : List Int → List Int → List Int
  | [x, y, w], [n, m] => thin [x * n, y * n, w * m]
  | _, _ => []
def innL : List Int → List Int → List Int
  | [x, y, w], [u, v, z] => thin [x * u + y * v, w * z]
  | _, _ => []
def crsL : List Int → List Int → List Int
  | [x, y, w], [u, v, z] => thin [x * v - y * u, w * z]
  | _, _ => []
def qtrL : List Int → List Int
  | [x, y, w] => [-y, x, w]
  | _ => []
def sgn (n : Int) : Int := if 0 < n then 1 else if n < 0 then -1 else 0
def sidL : List Int → List Int → List Int → Int
  | [x, y, w], [u, v, z], [p, q, r] => sgn ((x * v - u * y) * r - (v * w - y * z) * p - (x * z - u * w) * q)
  | _, _, _ => 0
theorem mulb {x y : Int} {n m : Nat} (hx : x.natAbs ≤ n) (hy : y.natAbs ≤ m) : (x * y).natAbs ≤ n * m := by
  rw [Int.natAbs_mul]
  exact Nat.mul_le_mul hx hy
theorem addb {x y : Int} {n m : Nat} (hx : x.natAbs ≤ n) (hy : y.natAbs ≤ m) : (x + y).natAbs ≤ n + m := by omega
theorem subb {x y : Int} {n m : Nat} (hx : x.natAbs ≤ n) (hy : y.natAbs ≤ m) : (x - y).natAbs ≤ n + m := by omega
theorem pt_sum {a b : List Int} {x y w u v z : Int} {n m : Nat} (A : PtL n a x y w) (B : PtL m b u v z) : ∃ (g p q r : Int), 0 < g ∧ x * z + u * w = g * p ∧ y * z + v * w = g * q ∧ w * z = g * r ∧ PtL (n * m + m * n) (sumL a b) p q r := by
  have ea := A.eq
  have eb := B.eq
  subst ea eb
  exact pt_thin (Int.mul_pos A.pos B.pos) (addb (mulb A.bx B.bw) (mulb B.bx A.bw)) (addb (mulb A.bby B.bw) (mulb B.bby A.bw)) (Nat.le_trans (mulb A.bw B.bw) (Nat.le_add_right _ _))
theorem pt_way {a b : List Int} {x y w u v z : Int} {n m : Nat} (A : PtL n a x y w) (B : PtL m b u v z) : ∃ (g p q r : Int), 0 < g ∧ u * w - x * z = g * p ∧ v * w - y * z = g * q ∧ w * z = g * r ∧ PtL (m * n + n * m) (wayL a b) p q r := by
  have ea := A.eq
  have eb := B.eq
  subst ea eb
  exact pt_thin (Int.mul_pos A.pos B.pos) (subb (mulb B.bx A.bw) (mulb A.bx B.bw)) (subb (mulb B.bby A.bw) (mulb A.bby B.bw)) (Nat.le_trans (mulb A.bw B.bw) (by omega))
theorem pt_by {a b : List Int} {x y w n m : Int} {i j : Nat} (A : PtL i a x y w) (B : FrL j b n m) : ∃ (g p q r : Int), 0 < g ∧ x * n = g * p ∧ y * n = g * q ∧ w * m = g * r ∧ PtL (i * j) (byL a b) p q r := by
  have ea := A.eq
  have eb := B.eq
  subst ea eb
  exact pt_thin (Int.mul_pos A.pos B.pos) (mulb A.bx B.bt) (mulb A.bby B.bt) (mulb A.bw B.bb)
theorem pt_qtr {a : List Int} {x y w : Int} {n : Nat} (A : PtL n a x y w) : PtL n (qtrL a) (-y) x w := by
  have ea := A.eq
  subst ea
  refine ⟨rfl, A.pos, ?_, by rw [Int.natAbs_neg]; exact A.bby, A.bx, A.bw⟩
  rw [Int.natAbs_neg, Nat.gcd_comm y.natAbs x.natAbs]
  exact A.red
theorem fr_inn {a b : List Int} {x y w u v z : Int} {n m : Nat} (A : PtL n a x y w) (B : PtL m b u v z) : ∃ (g p r : Int), 0 < g ∧ x * u + y * v = g * p ∧ w * z = g * r ∧ FrL (n * m + n * m) (innL a b) p r := by
  have ea := A.eq
  have eb := B.eq
  subst ea eb
  exact fr_thin (Int.mul_pos A.pos B.pos) (addb (mulb A.bx B.bx) (mulb A.bby B.bby)) (Nat.le_trans (mulb A.bw B.bw) (Nat.le_add_right _ _))
theorem fr_crs {a b : List Int} {x y w u v z : Int} {n m : Nat} (A : PtL n a x y w) (B : PtL m b u v z) : ∃ (g p r : Int), 0 < g ∧ x * v - y * u = g * p ∧ w * z = g * r ∧ FrL (n * m + n * m) (crsL a b) p r := by
  have ea := A.eq
  have eb := B.eq
  subst ea eb
  exact fr_thin (Int.mul_pos A.pos B.pos) (subb (mulb A.bx B.bby) (mulb A.bby B.bx)) (Nat.le_trans (mulb A.bw B.bw) (Nat.le_add_right _ _))
/-- there and back -/
theorem way_back {a b : List Int} {x y w u v z : Int} {n m : Nat} (A : PtL n a x y w) (B : PtL m b u v z) : sumL (wayL b a) b = a := by
  obtain ⟨g, p, q, r, g0, e1, e2, e3, C⟩ := pt_way B A
  have ea := A.eq
  have eb := B.eq
  subst ea eb
  rw [C.eq]
  show thin [p * z + u * r, q * z + v * r, r * z] = [x, y, w]
  have f1 : g * (p * z + u * r) = z * z * x := by grind
  have f2 : g * (q * z + v * r) = z * z * y := by grind
  have f3 : g * (r * z) = z * z * w := by grind
  have rz : 0 < r * z := Int.mul_pos C.pos B.pos
  obtain ⟨h, p', q', r', h0, i1, i2, i3, i4, i5⟩ := thin3 (x := p * z + u * r) (y := q * z + v * r) rz
  rw [i4]
  have k0 : 0 < g * h := Int.mul_pos g0 h0
  have j1 := thin_mul (x := p') (y := q') (w := r') k0 (pos_of h0 (i3 ▸ rz)) i5
  have j2 := thin_mul (k := z * z) (Int.mul_pos B.pos B.pos) A.pos A.red
  rw [← j1, ← j2, ← f1, ← f2, ← f3, i1, i2, i3, Int.mul_assoc, Int.mul_assoc, Int.mul_assoc]
theorem sgn_pos {k n : Int} (hk : 0 < k) : sgn (k * n) = sgn n := by
  unfold sgn
  by_cases h1 : 0 < n
  · rw [if_pos h1, if_pos (Int.mul_pos hk h1)]
  · by_cases h2 : n < 0
    · have : k * n < 0 := Int.mul_neg_of_pos_of_neg hk h2
      rw [if_neg h1, if_pos h2, if_neg (by omega), if_pos this]
    · have : n = 0 := by omega
      subst this
      rw [Int.mul_zero]
theorem sgn_neg (n : Int) : sgn (-n) = -sgn n := by
  unfold sgn
  split <;> split <;> (try split) <;> (try split) <;> omega
theorem det_id (x y w u v z p q r : Int) : (u * w - x * z) * (q * w - y * r) - (v * w - y * z) * (p * w - x * r) = w * ((x * v - u * y) * r - (v * w - y * z) * p - (x * z - u * w) * q) := by grind
theorem det_g {g1 g2 g t p1 q1 p2 q2 : Int} (h : p1 * q2 - q1 * p2 = g * t) : (g1 * g2 * g) * t = (g1 * p1) * (g2 * q2) - (g1 * q1) * (g2 * p2) := by grind
/-- the side by the cross product of the two ways -/
theorem side_is {a b c : List Int} {x y w u v z p q r : Int} {n m l : Nat} (A : PtL n a x y w) (B : PtL m b u v z) (C : PtL l c p q r) : ∃ t e : Int, crsL (wayL a b) (wayL a c) = [t, e] ∧ sgn t = sidL a b c := by
  obtain ⟨g1, p1, q1, r1, g10, d1, d2, d3, D⟩ := pt_way A B
  obtain ⟨g2, p2, q2, r2, g20, e1, e2, e3, E⟩ := pt_way A C
  obtain ⟨g, t, e, g0, f1, f2, F⟩ := fr_crs D E
  refine ⟨t, e, F.eq, ?_⟩
  have ea := A.eq
  have eb := B.eq
  have ec := C.eq
  subst ea eb ec
  show sgn t = sgn ((x * v - u * y) * r - (v * w - y * z) * p - (x * z - u * w) * q)
  have hh : (g1 * g2 * g) * t = w * ((x * v - u * y) * r - (v * w - y * z) * p - (x * z - u * w) * q) := by
    rw [det_g f1, ← d1, ← d2, ← e1, ← e2]
    exact det_id x y w u v z p q r
  rw [← sgn_pos (Int.mul_pos (Int.mul_pos g10 g20) g0), hh, sgn_pos A.pos]
theorem side_swap {a b c : List Int} {x y w u v z p q r : Int} {n m l : Nat} (A : PtL n a x y w) (B : PtL m b u v z) (C : PtL l c p q r) : sidL b a c = -sidL a b c ∧ sidL a c b = -sidL a b c := by
  have ea := A.eq
  have eb := B.eq
  have ec := C.eq
  subst ea eb ec
  constructor
  · show sgn _ = -sgn _
    rw [← sgn_neg]
    congr 1
    grind
  · show sgn _ = -sgn _
    rw [← sgn_neg]
    congr 1
    grind
end K8

namespace K8
open PySem L2 Ur
abbrev sSign : Stmt := top 7
abbrev sRatio : Stmt := top 9
abbrev sOrder : Stmt := top 10
abbrev sPlace : Stmt := top 12
abbrev sInnerOf : Stmt := top 13
abbrev sDirF : Stmt := top 23
abbrev sChkP : Stmt := top 27
abbrev sChkD : Stmt := top 28
abbrev sHAlong : Stmt := top 31
abbrev sLFrac : Stmt := top 44
abbrev sLAdd : Stmt := top 45
abbrev sLCmp : Stmt := top 46
abbrev sLSign : Stmt := top 47
abbrev sLSpot : Stmt := top 48
abbrev sLWay : Stmt := top 49
abbrev sLOn : Stmt := top 50
abbrev sLBy : Stmt := top 51
abbrev sLCross : Stmt := top 52
abbrev sLQuarter : Stmt := top 53
abbrev sLSide : Stmt := top 54
abbrev sLBefore : Stmt := top 55
abbrev sLTall : Stmt := top 62
/-- bounds, never reckoned -/
def WB : Nat := 2 ^ 1000
def W2 : Nat := 2 ^ 4000
theorem le_wb {n k : Nat} (h : n ≤ 2 ^ k) (hk : k ≤ 1000) : n ≤ WB := Nat.le_trans h (by unfold WB; exact Nat.pow_le_pow_right (by decide) hk)
theorem lw {x : Int} {n : Nat} (h : x.natAbs ≤ n) (hn : n ≤ WB) : x.natAbs < 2 ^ 1001 := Nat.lt_of_le_of_lt (Nat.le_trans h hn) (by unfold WB; exact Nat.pow_lt_pow_right (by decide) (by decide))
theorem mw {x y : Int} (h : x.natAbs < 2 ^ 1001) (k : y.natAbs < 2 ^ 1001) : CMulW x y := wide_mul (a := 1001) (b := 1001) h k (by decide) (by decide) (by decide)
theorem b100 {n : Nat} (h : n ≤ W2) : n < 2 ^ 9000 := Nat.lt_of_le_of_lt h (by unfold W2; exact Nat.pow_lt_pow_right (by decide) (by decide))
theorem sq2 {n m : Nat} (h1 : n ≤ WB) (h2 : m ≤ WB) : n * m ≤ 2 ^ 2000 := by
  have := Nat.mul_le_mul h1 h2
  unfold WB at this
  rwa [← Nat.pow_add] at this
theorem dbl : 2 ^ 2000 + 2 ^ 2000 ≤ W2 := by
  have h : 2 ^ 2000 + 2 ^ 2000 = 2 ^ 2001 := by rw [show (2001 : Nat) = 2000 + 1 from rfl, Nat.pow_succ]; omega
  rw [h]
  unfold W2
  exact Nat.pow_le_pow_right (by decide) (by decide)
theorem one_le : 2 ^ 2000 ≤ W2 := by unfold W2; exact Nat.pow_le_pow_right (by decide) (by decide)
theorem two2 {n m n' m' : Nat} (h1 : n ≤ WB) (h2 : m ≤ WB) (h3 : n' ≤ WB) (h4 : m' ≤ WB) : n * m + n' * m' ≤ W2 := Nat.le_trans (Nat.add_le_add (sq2 h1 h2) (sq2 h3 h4)) dbl
theorem one2 {n m : Nat} (h1 : n ≤ WB) (h2 : m ≤ WB) : n * m ≤ W2 := Nat.le_trans (sq2 h1 h2) one_le
theorem leW {n m : Nat} (h : n ≤ m) (k : m ≤ W2) : n ≤ W2 := Nat.le_trans h k
def spN3 (K : PySem.W.Frag) : Sp := fun vs H Q _ => ∃ x y w : Int, vs = [.int x, .int y, .int w] ∧ 0 < w ∧ x.natAbs ≤ W2 ∧ y.natAbs ≤ W2 ∧ w.natAbs ≤ W2 ∧ ∀ p H', Same H H' → Tp K H' p (thin [x, y, w]) → Q p H'
def spN2 (K : PySem.W.Frag) : Sp := fun vs H Q _ => ∃ x w : Int, vs = [.int x, .int w] ∧ 0 < w ∧ x.natAbs ≤ W2 ∧ w.natAbs ≤ W2 ∧ ∀ p H', Same H H' → Tp K H' p (thin [x, w]) → Q p H'
def spP1 (K : PySem.W.Frag) (f : List Int → List Int) : Sp := fun vs H Q _ => ∃ (v : V) (a : List Int) (x y w : Int) (n : Nat), vs = [v] ∧ Tp K H v a ∧ PtL n a x y w ∧ n ≤ WB ∧ ∀ p H', Same H H' → Tp K H' p (f a) → Q p H'
def spP2 (K : PySem.W.Frag) (f : List Int → List Int → List Int) : Sp := fun vs H Q _ => ∃ (v v' : V) (a b : List Int) (x y w x' y' w' : Int) (n m : Nat), vs = [v, v'] ∧ Tp K H v a ∧ Tp K H v' b ∧ PtL n a x y w ∧ PtL m b x' y' w' ∧ n ≤ WB ∧ m ≤ WB ∧ ∀ p H', Same H H' → Tp K H' p (f a b) → Q p H'
def spPF (K : PySem.W.Frag) (f : List Int → List Int → List Int) : Sp := fun vs H Q _ => ∃ (v v' : V) (a b : List Int) (x y w t e : Int) (n m : Nat), vs = [v, v'] ∧ Tp K H v a ∧ Tp K H v' b ∧ PtL n a x y w ∧ FrL m b t e ∧ n ≤ WB ∧ m ≤ WB ∧ ∀ p H', Same H H' → Tp K H' p (f a b) → Q p H'
section
variable {P : Program} {w : World} {K :
      PySem.W.Frag} {mg : Str → Option Value} {base : Heap}
abbrev p_n : List Str := ["number"]
theorem sc_sign : FnScope p_n p_n (defScope sSign) := ⟨rfl, rfl, rfl, by decide +kernel, rfl, by decide +kernel, by decide +kernel⟩
def spSgn : Sp := fun vs H Q _ => ∃ n : Int, vs = [.int n] ∧ Q (.int (sgn n)) H
theorem ok_sign {f : Addr} {fd : FuncData} (F : Fun K "sign_of" "sign_of" sSign f fd) : FnOk P w K mg base CX0 1 f fd p_n spSgn := by
  refine F.ok sc_sign (fun vs H Q E h => ?_) (fun cdv A outer s H vs Q E hr h => ?_)
  · obtain ⟨n, rfl, _⟩ := h
    rfl
  · obtain ⟨n, rfl, q⟩ := h
    refine ⟨_, (pss_cons (ps_if (pt_cmpR op_gt (pv 0) pe_int (nomark _)) (pss_one (ps_ret pe_int)) pss_nil)
      (pss_one (ps_ret (pe_ifExp (pt_cmpR op_lt (pv 0) pe_int (nomark _)) (pe_un un_neg pe_int) pe_int)))), ?_⟩
    unfold sgn at q
    refine ⟨_, rfl, _, _,
          rfl, rfl, _, rfl, ?_⟩
    refine ite2 (fun c
          => ?_) (fun c => ?_)
    · rw [if_pos (of_decide_eq_true c)] at q
      exact q
    · have c' : ¬ 0 < n := fun z => c (decide_eq_true z)
      rw [if_neg c'] at q
      refine ⟨_, rfl, _, _,
            rfl, rfl, _, rfl, ?_⟩
      refine ite2 (fun d => ?_) (fun d => ?_)
      · rw [if_pos (of_decide_eq_true d)] at q
        exact ⟨_, rfl, q⟩
      · rw [if_neg fun z => d (decide_eq_true z)] at q
        exact q
abbrev n_ratio : List Str := ["n", "m", "divisor"]
abbrev p_ratio : List Str := ["n", "m"]
theorem sc_ratio : FnScope n_ratio p_ratio (defScope sRatio) := ⟨rfl, rfl, rfl, by decide +kernel, rfl, by decide +kernel, by decide +kernel⟩
theorem ok_ratio {f : Addr} {fd : FuncData} (F : Fun K "ratio" "ratio" sRatio f fd) (mG : mg "gcd" = some (.builtin "math.gcd")) : FnOk P w K mg base CX0 1 f fd p_ratio (spN2 K) := by
  refine F.ok sc_ratio (fun vs H Q E h => ?_) (fun cdv A outer s H vs Q E hr h => ?_)
  · obtain ⟨x, w, rfl, _⟩ := h
    rfl
  · obtain ⟨x, w, rfl, w0, bx, bw, q⟩ := h
    refine ⟨_, (pss_cons (ps_set (i := 2) sc_ratio.nd rfl (Or.inl rfl) (pe_callBfun cr_gcd (by rfl) mG (pa_cons (pv 0) (pa_cons (pv 1) pa_nil))))
      (pss_cons (ps_if (pt_cmpR op_lt (pv 1) pe_int (nomark _)) (pss_one (ps_set (i := 2) sc_ratio.nd rfl (Or.inl rfl) (pe_un un_neg (pv 2)))) pss_nil)
      (pss_one (ps_ret (pe_tup (pa_cons (pe_op op_fdivW (pv 0) (pv 2)) (pa_cons (pe_op op_fdivW (pv 1) (pv 2)) pa_nil))))))), ?_⟩
    refine ⟨_, rfl, _, rfl, x, w, rfl, ?_⟩
    refine ⟨_, rfl, _, _,
          rfl, rfl, _, rfl, ?_⟩
    refine ite2 (fun c => absurd (of_decide_eq_true c) (by omega)) (fun _ => ?_)
    have g0 := g2_pos (x := x) w0
    have gw : gAll [x, w] < 2 ^ 9000 := by
      rw [gAll_2]
      exact Nat.lt_of_le_of_lt (Nat.le_of_dvd (by omega) (Nat.gcd_dvd_right _ _)) (b100 bw)
    rw [gAll_2] at g0 gw
    have cd : CDivW x ((Nat.gcd x.natAbs w.natAbs : Nat) : Int) := wide_div (b := 9000) (by omega) (by simpa using gw) (by decide) (by decide)
    refine ⟨_, rfl, _, rfl, _, _, rfl, rfl, ⟨cd.1, cd.2⟩, _, rfl, _, rfl, _, _, rfl, rfl, ⟨cd.1, cd.2⟩, by show 2 ≤ sizeLine; decide, fun p hp => ?_⟩
    refine q _ _ (same_new hp) ⟨p, rfl, ?_⟩
    rw [thin_eq (g2_pos w0), gAll_2]
    exact SqT.of upd_same
abbrev n_place : List Str := ["x", "y", "w", "divisor"]
abbrev p_place : List Str := ["x", "y", "w"]
theorem sc_place : FnScope n_place p_place (defScope sPlace) := ⟨rfl, rfl, rfl, by decide +kernel, rfl, by decide +kernel, by decide +kernel⟩
theorem ok_place {f : Addr} {fd : FuncData} (F : Fun K "place" "place" sPlace f fd) (mG : mg "gcd" = some (.builtin "math.gcd")) : FnOk P w K mg base CX0 1 f fd p_place (spN3 K) := by
  refine F.ok sc_place (fun vs H Q E h => ?_) (fun cdv A outer s H vs Q E hr h => ?_)
  · obtain ⟨x, y, w, rfl, _⟩ := h
    rfl
  · obtain ⟨x, y, w, rfl, w0, bx, bby, bw, q⟩ := h
    refine ⟨_, (pss_cons (ps_set (i := 3) sc_place.nd rfl (Or.inl rfl) (pe_callBfun cr_gcd (by rfl) mG (pa_cons (pe_callBfun cr_gcd (by rfl) mG (pa_cons (pv 0) (pa_cons (pv 1) pa_nil))) (pa_cons (pv 2) pa_nil))))
      (pss_one (ps_ret (pe_tup (pa_cons (pe_op op_fdivW (pv 0) (pv 3)) (pa_cons (pe_op op_fdivW (pv 1) (pv 3)) (pa_cons (pe_op op_fdivW (pv 2) (pv 3)) pa_nil))))))), ?_⟩
    refine ⟨_, rfl, _, rfl, x, y, rfl, _, rfl, _, _, rfl, ?_⟩
    have g0 := g3_pos (x := x) (y := y) w0
    have gw : gAll [x, y, w] < 2 ^ 9000 := by
      rw [gAll_3]
      exact Nat.lt_of_le_of_lt (Nat.le_of_dvd (by omega) (Nat.gcd_dvd_right _ _)) (b100 bw)
    have eg : Nat.gcd (Int.natAbs ((Nat.gcd x.natAbs y.natAbs : Nat) : Int)) w.natAbs = gAll [x, y, w] := by rw [gAll_3, Int.natAbs_natCast]
    rw [eg]
    have cd : CDivW x ((gAll [x, y, w] : Nat) : Int) := wide_div (b := 9000) (by omega) (by simpa using gw) (by decide) (by decide)
    refine ⟨_, rfl, _, rfl, _, _, rfl, rfl, ⟨cd.1, cd.2⟩, _, rfl, _, rfl, _, _, rfl, rfl, ⟨cd.1, cd.2⟩, _, rfl, _, rfl, _, _, rfl, rfl, ⟨cd.1, cd.2⟩, by show 3 ≤ sizeLine; decide, fun p hp => ?_⟩
    refine q _ _ (same_new hp) ⟨p, rfl, ?_⟩
    rw [thin_eq (g3_pos w0)]
    exact SqT.of upd_same
abbrev p_po : List Str := ["point", "other"]
theorem sc_innerof : FnScope p_po p_po (defScope sInnerOf) := ⟨rfl, rfl, rfl, by decide +kernel, rfl, by decide +kernel, by decide +kernel⟩
theorem ok_innerof {f : Addr} {fd : FuncData} (F : Fun K "inner_of" "inner_of" sInnerOf f fd) (H_ratio : Has P w K mg base "ratio" p_ratio 1 (spN2 K)) : FnOk P w K mg base CX0 2 f fd p_po (spP2 K innL) := by
  refine F.ok sc_innerof (fun vs H Q E h => ?_) (fun cdv A outer s H vs Q E hr h => ?_)
  · obtain ⟨_, _, _, _, _, _, _, _, _, _, _, _, rfl, _⟩ := h
    rfl
  · obtain ⟨va, vb, a, b, x, y, w, x', y', w', n, m, rfl, ⟨ta, rfl, sa⟩, ⟨tb, rfl, sb⟩, PA, PB, hn, hm, q⟩ := h
    have ea := PA.eq
    have eb := PB.eq
    subst ea eb
    refine ⟨_, (pss_one (ps_ret (pe_has H_ratio (hr.mono (by decide)) (by rfl) (pa_cons (pe_op op_add (pe_op op_mulW (pe_ix (r := rIxT K) ix_tup (pv 0) pe_int (fun _ _ => rfl)) (pe_ix (r := rIxT K) ix_tup (pv 1) pe_int (fun _ _ => rfl))) (pe_op op_mulW (pe_ix (r := rIxT K) ix_tup (pv 0) pe_int (fun _ _ => rfl)) (pe_ix (r := rIxT K) ix_tup (pv 1) pe_int (fun _ _ => rfl)))) (pa_cons (pe_op op_mulW (pe_ix (r := rIxT K) ix_tup (pv 0) pe_int (fun _ _ => rfl)) (pe_ix (r := rIxT K) ix_tup (pv 1) pe_int (fun _ _ => rfl))) pa_nil))))), ?_⟩
    refine ⟨_, rfl, ta, _, 0, _, rfl, rfl, sa, rfl, _, rfl, tb, _, 0, _, rfl, rfl, sb, rfl, _, _, rfl, rfl, mw (lw PA.bx hn) (lw PB.bx hm), _, rfl, ta, _, 1, _, rfl, rfl, sa, rfl, _, rfl, tb, _, 1, _, rfl, rfl, sb, rfl, _, _, rfl, rfl, mw (lw PA.bby hn) (lw PB.bby hm), _, _, rfl, rfl, _, rfl, ta, _, 2, _, rfl, rfl, sa, rfl, _, rfl, tb, _, 2, _, rfl, rfl, sb, rfl, _, _, rfl, rfl, mw (lw PA.bw hn) (lw PB.bw hm), ?_⟩
    have h2 := two2 hn hm hm hn
    have h3 := one2 hn hm
    exact ⟨_, _, rfl, Int.mul_pos PA.pos PB.pos, leW (addb (mulb PA.bx PB.bx) (mulb PA.bby PB.bby)) (two2 hn hm hn hm), leW (mulb PA.bw PB.bw) h3, fun p H' s' tp => q p H' s' tp⟩
theorem sc_dir : FnScope n_value n_value (defScope sDirF) := ⟨rfl, rfl, rfl, by decide +kernel, rfl, by decide +kernel, by decide +kernel⟩
theorem ok_dirF {f : Addr} {fd : FuncData} (F : Fun K "direction_fits" "direction_fits" sDirF f fd) (T : Bl mg) (mG : mg "gcd" = some (.builtin "math.gcd")) (H_wholes_fit : Has P w K mg base "wholes_fit" p_wholes_fit 2 (spTold K fun xs => xs.all wh)) : FnOk P w K mg base CX0 3 f fd n_value (spTold K isDr) := by
  refine F.ok sc_dir (fun vs H Q E h => ?_) (fun cdv A outer s H vs Q E hr h => ?_)
  · obtain ⟨x, k, xs, rfl, _⟩ := h
    rfl
  · obtain ⟨x, k, xs, rfl, A1, q⟩ := h
    refine ⟨_, (pss_one (ps_ret (pe_and (pe_has H_wholes_fit (hr.mono (by decide)) (by rfl) (pa_cons (pv 0) pa_nil)) (pe_and (pe_cmpR op_eq (pe_callB call_len_seq (by rfl) T.len PySem.boot_len (pa_cons (pv 0) pa_nil)) pe_int (nomark _)) (pe_one (pe_cmpR op_eq (pe_callBfun cr_gcd (by rfl) mG (pa_cons (pe_ix ix_tup (pv 0) pe_int (fun _ _ => rfl)) (pa_cons (pe_ix ix_tup (pv 0) pe_int (fun _ _ => rfl)) pa_nil))) pe_int (nomark _))))))), ?_⟩
    refine ⟨x, rfl, x, k, xs, rfl, A1, fun H1 s1 => ⟨_, rfl, ?_⟩⟩
    have no : (k == .tup && isDr xs) = false → Q (.bl false) H1 := fun e => by
      have := q H1 s1
      rw [e] at this
      exact this
    refine ite2 (fun c => ?_) (fun c => no (no_of dr_wh c))
    rw [Bool.and_eq_true] at c
    obtain ⟨a, rfl, hS, _, _, _⟩ := (A1.same s1).its (by simpa using c.1)
    obtain ⟨ns, rfl⟩ := all_wh c.2
    refine ⟨_, rfl, a, _, rfl, Or.inr hS, rfl, _, rfl, ?_⟩
    refine ite2 (fun c2 => ?_) (fun c2 => no (by rw [dr_no (not_len (n := 2) c2), Bool.and_false]))
    match ns, ns_len (n := 2) c2, q, no, hS with
    | [n, m], _, q, no, hS =>
      refine ⟨_, rfl, a, _, 0, _, rfl, rfl, hS, rfl, _, rfl, a, _, 1, _, rfl, rfl, hS, rfl, _, _, rfl, rfl, ?_⟩
      have := q H1 s1
      have e : (k == Kd.tup && isDr ([n, m].map V.int)) = decide (V.int ((Nat.gcd n.natAbs m.natAbs : Nat) : Int) = V.int 1) := by
        rw [c.1]
        show (true && decide (Nat.gcd n.natAbs m.natAbs = 1)) = _
        rw [Bool.true_and]
        refine decide_eq_decide.mpr ⟨fun e => by rw [e]; rfl, fun e => ?_⟩
        have := V.int.inj e
        omega
      rw [e] at this
      exact this
theorem arg_ints {K : PySem.W.Frag} {H : Hp} {t : Addr} {ns : List Int} (h : SqT K H t (ns.map V.int)) (hl : ns.length ≤ 1000) (hb : ∀ n ∈ ns, n.natAbs < 2 ^ 9000) : Arg K H (.ref t) .tup (ns.map V.int) := by
  refine ⟨tup_kd h, fun _ => ⟨t, rfl, h, by simpa using hl, fun y hy => ?_, fun i hi => ?_⟩⟩
  · obtain ⟨n, _, rfl⟩ := List.mem_map.mp hy
    exact ⟨⟨.int, .base (.int n)⟩, .int n, .int n, rfl, Nat.zero_le _⟩
  · obtain ⟨n, hn, e⟩ := List.mem_map.mp hi
    cases e
    exact hb _ hn
theorem b9 {x : Int} {n : Nat} (h : x.natAbs ≤ n) (hn : n ≤ WB) : x.natAbs < 2 ^ 9000 := Nat.lt_of_lt_of_le (lw h hn) (Nat.pow_le_pow_right (by decide) (by decide))
def spChkP (K : PySem.W.Frag) : Sp := fun vs H Q _ => ∃ (v : V) (a : List Int) (x y w : Int) (n : Nat), vs = [v] ∧ Tp K H v a ∧ PtL n a x y w ∧ n ≤ WB ∧ ∀ H', Same H H' → Q .non H'
theorem ok_chkP {f : Addr} {fd : FuncData} (F : Fun K "check_point" "check_point" sChkP f fd) (H_point_fits : Has P w K mg base "point_fits" n_value 3 (spTold K isPt)) : FnOk P w K mg base CX0 4 f fd n_value (spChkP K) := by
  have sc : FnScope n_value n_value (defScope sChkP) := ⟨rfl, rfl, rfl, by decide +kernel, rfl, by decide +kernel, by decide +kernel⟩
  refine F.ok sc (fun vs H Q E h => ?_) (fun cdv A outer s H vs Q E hr h => ?_)
  · obtain ⟨_, _, _, _, _, _, rfl, _⟩ := h
    rfl
  · obtain ⟨va, a, x, y, w, n, rfl, ⟨ta, rfl, sa⟩, PA, hn, q⟩ := h
    have ea := PA.eq
    subst ea
    refine ⟨_, (pss_one (ps_if (pt_not (pt_val (pe_has H_point_fits (hr.mono (by decide)) (by rfl) (pa_cons (pv 0) pa_nil)))) (pss_one ps_never) pss_nil)), ?_⟩
    refine ⟨_, rfl, _, .tup, _, rfl, arg_ints sa (by simp) (fun z hz => ?_), fun H1 s1 => ⟨_, rfl, ?_⟩⟩
    · simp only [List.mem_cons, List.not_mem_nil, or_false] at hz
      rcases hz with rfl | rfl | rfl
      · exact b9 PA.bx hn
      · exact b9 PA.bby hn
      · exact b9 PA.bw hn
    · have e2 : (!(Kd.tup == Kd.tup && isPt ([x, y, w].map V.int))) = false := by
        show (!(decide (0 < w) && decide (Nat.gcd (Nat.gcd x.natAbs y.natAbs) w.natAbs = 1))) = false
        rw [decide_eq_true PA.pos, decide_eq_true PA.red]
        rfl
      dsimp only
      rw [e2]
      exact iteF (q H1 s1)
/-- a direction: two numbers without a common divisor -/
structure DrL (n : Nat) (a : List Int) (c s : Int) : Prop where
  eq : a = [c, s]
  red : Nat.gcd c.natAbs s.natAbs = 1
  bc : c.natAbs ≤ n
  bs : s.natAbs ≤ n
theorem DrL.pt {n : Nat} {a : List Int} {c s : Int} (h : DrL n a c s) (h1 : 1 ≤ n) : PtL n [c, s, 1] c s 1 := ⟨rfl, by decide, by rw [h.red]; rfl, h.bc, h.bs, h1⟩
def spChkD (K : PySem.W.Frag) : Sp := fun vs H Q _ => ∃ (v : V) (a : List Int) (c s : Int) (n : Nat), vs = [v] ∧ Tp K H v a ∧ DrL n a c s ∧ n ≤ WB ∧ ∀ H', Same H H' → Q .non H'
theorem ok_chkD {f : Addr} {fd : FuncData} (F : Fun K "check_direction" "check_direction" sChkD f fd) (H_direction_fits : Has P w K mg base "direction_fits" n_value 3 (spTold K isDr)) : FnOk P w K mg base CX0 4 f fd n_value (spChkD K) := by
  have sc : FnScope n_value n_value (defScope sChkD) := ⟨rfl, rfl, rfl, by decide +kernel, rfl, by decide +kernel, by decide +kernel⟩
  refine F.ok sc (fun vs H Q E h => ?_) (fun cdv A outer s H vs Q E hr h => ?_)
  · obtain ⟨_, _, _, _, _, rfl, _⟩ := h
    rfl
  · obtain ⟨va, a, c, s', n, rfl, ⟨ta, rfl, sa⟩, PA, hn, q⟩ := h
    have ea := PA.eq
    subst ea
    refine ⟨_, (pss_one (ps_if (pt_not (pt_val (pe_has H_direction_fits (hr.mono (by decide)) (by rfl) (pa_cons (pv 0) pa_nil)))) (pss_one ps_never) pss_nil)), ?_⟩
    refine ⟨_, rfl, _, .tup, _, rfl, arg_ints sa (by simp) (fun z hz => ?_), fun H1 s1 => ⟨_, rfl, ?_⟩⟩
    · simp only [List.mem_cons, List.not_mem_nil, or_false] at hz
      rcases hz with rfl | rfl
      · exact b9 PA.bc hn
      · exact b9 PA.bs hn
    · have e2 : (!(Kd.tup == Kd.tup && isDr ([c, s'].map V.int))) = false := by
        show (!(decide (Nat.gcd c.natAbs s'.natAbs = 1))) = false
        rw [decide_eq_true PA.red]
        rfl
      dsimp only
      rw [e2]
      exact iteF (q H1 s1)
/-! ### fractions compared -/
def ordL : List Int → List Int → Int
  | [t, e], [u, d] => sgn (t * d - u * e)
  | _, _ => 0
def spOrd (K : PySem.W.Frag) : Sp := fun vs H Q _ => ∃ (v v' : V) (a b : List Int) (t e u d : Int) (n m : Nat), vs = [v, v'] ∧ Tp K H v a ∧ Tp K H v' b ∧ FrL n a t e ∧ FrL m b u d ∧ n ≤ W2 ∧ m ≤ W2 ∧ Q (.int (ordL a b)) H
theorem l2 {x : Int} {n : Nat} (h : x.natAbs ≤ n) (hn : n ≤ W2) : x.natAbs < 2 ^ 9000 := b100 (Nat.le_trans h hn)
theorem m2 {x y : Int} (h : x.natAbs < 2 ^ 9000) (k : y.natAbs < 2 ^ 9000) : CMulW x y := wide_mul (a := 9000) (b := 9000) h k (by decide) (by decide) (by decide)
abbrev p_oo : List Str := ["one", "other"]
theorem sc_order : FnScope p_oo p_oo (defScope sOrder) := ⟨rfl, rfl, rfl, by decide +kernel, rfl, by decide +kernel, by decide +kernel⟩
theorem ok_order {f : Addr} {fd : FuncData} (F : Fun K "order" "order" sOrder f fd) (H_sign_of : Has P w K mg base "sign_of" p_n 1 spSgn) : FnOk P w K mg base CX0 2 f fd p_oo (spOrd K) := by
  refine F.ok sc_order (fun vs H Q E h => ?_) (fun cdv A outer s H vs Q E hr h => ?_)
  · obtain ⟨_, _, _, _, _, _, _, _, _, _, rfl, _⟩ := h
    rfl
  · obtain ⟨va, vb, a, b, t, e, u, d, n, m, rfl, ⟨ta, rfl, sa⟩, ⟨tb, rfl, sb⟩, PA, PB, hn, hm, q⟩ := h
    have ea := PA.eq
    have eb := PB.eq
    subst ea eb
    refine ⟨_, (pss_one (ps_ret (pe_has H_sign_of (hr.mono (by decide)) (by rfl) (pa_cons (pe_op op_sub (pe_op op_mulW (pe_ix (r := rIxT K) ix_tup (pv 0) pe_int (fun _ _ => rfl)) (pe_ix (r := rIxT K) ix_tup (pv 1) pe_int (fun _ _ => rfl))) (pe_op op_mulW (pe_ix (r := rIxT K) ix_tup (pv 1) pe_int (fun _ _ => rfl)) (pe_ix (r := rIxT K) ix_tup (pv 0) pe_int (fun _ _ => rfl)))) pa_nil)))), ?_⟩
    exact ⟨_, rfl, ta, _, 0, _, rfl, rfl, sa, rfl, _, rfl, tb, _, 1, _, rfl, rfl, sb, rfl, _, _, rfl, rfl, m2 (l2 PA.bt hn) (l2 PB.bb hm), _, rfl, tb, _, 0, _, rfl, rfl, sb, rfl, _, rfl, ta, _, 1, _, rfl, rfl, sa, rfl, _, _, rfl, rfl, m2 (l2 PB.bt hm) (l2 PA.bb hn), _, _, rfl, rfl, _, rfl, q⟩
/-! ### heights -/
def spUp (K : PySem.W.Frag) : Sp := fun vs H Q _ => ∃ (v v' : V) (a b : List Int) (c s x y w : Int) (n m : Nat), vs = [v, v'] ∧ Tp K H v a ∧ Tp K H v' b ∧ DrL n a c s ∧ PtL m b x y w ∧ 1 ≤ n ∧ n ≤ WB ∧ m ≤ WB ∧ ∀ p H', Same H H' → Tp K H' p (innL [c, s, 1] b) → Q p H'
abbrev p_up : List Str := ["up", "point"]
theorem sc_halong : FnScope p_up p_up (defScope sHAlong) := ⟨rfl, rfl, rfl, by decide +kernel, rfl, by decide +kernel, by decide +kernel⟩
theorem ok_halong {f : Addr} {fd : FuncData} (F : Fun K "height_along" "height_along" sHAlong f fd) (H_inner_of : Has P w K mg base "inner_of" p_po 2 (spP2 K innL)) : FnOk P w K mg base CX0 3 f fd p_up (spUp K) := by
  refine F.ok sc_halong (fun vs H Q E h => ?_) (fun cdv A outer s H vs Q E hr h => ?_)
  · obtain ⟨_, _, _, _, _, _, _, _, _, _, _, rfl, _⟩ := h
    rfl
  · obtain ⟨va, vb, a, b, c, s', x, y, w, n, m, rfl, ⟨ta, rfl, sa⟩, tb, PA, PB, h1, hn, hm, q⟩ := h
    have ea := PA.eq
    subst ea
    refine ⟨_, (pss_one (ps_ret (pe_has H_inner_of (hr.mono (by decide)) (by rfl) (pa_cons (pe_tup (pa_cons (pe_ix (r := rIxT K) ix_tup (pv 0) pe_int (fun _ _ => rfl)) (pa_cons (pe_ix (r := rIxT K) ix_tup (pv 0) pe_int (fun _ _ => rfl)) (pa_cons pe_int pa_nil)))) (pa_cons (pv 1) pa_nil))))), ?_⟩
    refine ⟨_, rfl, ta, _, 0, _, rfl, rfl, sa, rfl, _, rfl, ta, _, 1, _, rfl, rfl, sa, rfl, by show 3 ≤ sizeLine; decide, fun p hp => ?_⟩
    have s1 := same_new (p := p) (o := HO.tup [V.int c, .int s', .int 1]) hp
    exact ⟨_, rfl, _, vb, [c, s', 1], b, _, _, _, _, _, _, _, _, rfl, ⟨p, rfl, SqT.of upd_same⟩, tb.same s1, PA.pt h1, PB, hn, hm, fun p2 H2 s2 t2 => q p2 H2 (s1.trans s2) t2⟩
abbrev n_lfrac : List Str := ["_law_top", "_law_bottom", "_law_low"]
abbrev p_lfrac : List Str := ["_law_top", "_law_bottom"]
theorem sc_lfrac : FnScope n_lfrac p_lfrac (defScope sLFrac) := ⟨rfl, rfl, rfl, by decide +kernel, rfl, by decide +kernel, by decide +kernel⟩
theorem ok_lfrac {f : Addr} {fd : FuncData} (F : Fun K "_law_frac" "_law_frac" sLFrac f fd) (H_law_thin : Has P w K mg base "_law_thin" p_law_thin 2 (spThin K)) : FnOk P w K mg base CX0 3 f fd p_lfrac (spN2 K) := by
  refine F.ok sc_lfrac (fun vs H Q E h => ?_) (fun cdv A outer s H vs Q E hr h => ?_)
  · obtain ⟨x, w, rfl, _⟩ := h
    rfl
  · obtain ⟨x, w, rfl, w0, bx, bw, q⟩ := h
    refine ⟨_, (pss_cons (ps_set (i := 2) sc_lfrac.nd rfl (Or.inl rfl) (pe_has H_law_thin (hr.mono (by decide)) (by rfl) (pa_cons (pe_tup (pa_cons (pv 0) (pa_cons (pv 1) pa_nil))) pa_nil)))
      (pss_one (ps_ret (pe_ifExp (pt_cmpR op_gt (pe_ix (r := rIxT K) ix_tup (pv 2) pe_int (fun _ _ => rfl)) pe_int (nomark _)) (pv 2) (pe_tup (pa_cons (pe_un un_neg (pe_ix (r := rIxT K) ix_tup (pv 2) pe_int (fun _ _ => rfl))) (pa_cons (pe_un un_neg (pe_ix (r := rIxT K) ix_tup (pv 2) pe_int (fun _ _ => rfl))) pa_nil))))))), ?_⟩
    refine ⟨_, rfl, _, rfl, by show 2 ≤ sizeLine; decide, fun p hp => ⟨p, [x, w], rfl, SqT.of upd_same, by simp, fun n hn => ?_, fun p2 H2 s2 t2 => ?_⟩⟩
    · simp only [List.mem_cons, List.not_mem_nil, or_false] at hn
      rcases hn with rfl | rfl
      · exact b100 bx
      · exact b100 bw
    · obtain ⟨g, p', r', g0, e1, e2, e3, _⟩ := thin2 (x := x) w0
      have r0 := pos_of g0 (e2 ▸ w0)
      have s12 := (same_new (p := p) (o := HO.tup [V.int x, V.int w]) hp).trans s2
      have t3 := t2
      rw [e3] at t3
      refine ⟨_, rfl, p2, _, 1, _, rfl, rfl, t3, rfl, _, _, rfl, rfl, _, rfl, ?_⟩
      refine ite2 (fun _ => ?_) (fun c => absurd (decide_eq_true r0) c)
      exact ⟨_, rfl, q _ H2 s12 ⟨p2, rfl, t2⟩⟩
abbrev p_lnum : List Str := ["_law_number"]
theorem sc_lsign : FnScope p_lnum p_lnum (defScope sLSign) := ⟨rfl, rfl, rfl, by decide +kernel, rfl, by decide +kernel, by decide +kernel⟩
theorem ok_lsign {f : Addr} {fd : FuncData} (F : Fun K "_law_sign" "_law_sign" sLSign f fd) (T : Bl mg) : FnOk P w K mg base CX0 1 f fd p_lnum spSgn := by
  refine F.ok sc_lsign (fun vs H Q E h => ?_) (fun cdv A outer s H vs Q E hr h => ?_)
  · obtain ⟨n, rfl, _⟩ := h
    rfl
  · obtain ⟨n, rfl, q⟩ := h
    refine ⟨_, (pss_one (ps_ret (pe_op op_sub (pe_callTy call_int1 (by rfl) T.int PyProof.Rows.boot_int (pa_cons (pe_cmpR op_gt (pv 0) pe_int (nomark _)) pa_nil)) (pe_callTy call_int1 (by rfl) T.int PyProof.Rows.boot_int (pa_cons (pe_cmpR op_lt (pv 0) pe_int (nomark _)) pa_nil))))), ?_⟩
    refine ⟨_, rfl, _, _, rfl, rfl, Or.inr ⟨_, rfl, _, rfl, _, _, rfl, rfl, Or.inr ⟨_, rfl, _, _, rfl, rfl, ?_⟩⟩⟩
    have e : sgn n = (if decide (0 < n) = true then 1 else 0) - (if decide (n < 0) = true then 1 else 0) := by
      unfold sgn
      by_cases h1 : 0 < n
      · rw [if_pos h1, decide_eq_true h1, decide_eq_false (by omega)]
        rfl
      · by_cases h2 : n < 0
        · rw [if_neg h1, if_pos h2, decide_eq_false h1, decide_eq_true h2]
          rfl
        · rw [if_neg h1, if_neg h2, decide_eq_false h1, decide_eq_false h2]
          rfl
    rw [e] at q
    exact q
abbrev p_lspot : List Str := ["_law_x", "_law_y", "_law_w"]
theorem sc_lspot : FnScope p_lspot p_lspot (defScope sLSpot) := ⟨rfl, rfl, rfl, by decide +kernel, rfl, by decide +kernel, by decide +kernel⟩
theorem ok_lspot {f : Addr} {fd : FuncData} (F : Fun K "_law_spot" "_law_spot" sLSpot f fd) (H_law_thin : Has P w K mg base "_law_thin" p_law_thin 2 (spThin K)) : FnOk P w K mg base CX0 3 f fd p_lspot (spN3 K) := by
  refine F.ok sc_lspot (fun vs H Q E h => ?_) (fun cdv A outer s H vs Q E hr h => ?_)
  · obtain ⟨x, y, w, rfl, _⟩ := h
    rfl
  · obtain ⟨x, y, w, rfl, w0, bx, bby, bw, q⟩ := h
    refine ⟨_, (pss_one (ps_ret (pe_has H_law_thin (hr.mono (by decide)) (by rfl) (pa_cons (pe_tup (pa_cons (pv 0) (pa_cons (pv 1) (pa_cons (pv 2) pa_nil)))) pa_nil)))), ?_⟩
    refine ⟨_, rfl, _, rfl, _, rfl, by show 3 ≤ sizeLine; decide, fun p hp => ⟨p, [x, y, w], rfl, SqT.of upd_same, by simp, fun n hn => ?_, fun p2 H2 s2 t2 => q _ H2 ((same_new hp).trans s2) ⟨p2, rfl, t2⟩⟩⟩
    simp only [List.mem_cons, List.not_mem_nil, or_false] at hn
    rcases hn with rfl | rfl | rfl
    · exact b100 bx
    · exact b100 bby
    · exact b100 bw
abbrev p_lway : List Str := ["_law_spot_here", "_law_goal"]
abbrev p_lon : List Str := ["_law_spot_here", "_law_step"]
abbrev p_lby : List Str := ["_law_step", "_law_part"]
abbrev p_lsg : List Str := ["_law_step", "_law_goal"]
theorem sc_sLWay : FnScope p_lway p_lway (defScope sLWay) := ⟨rfl, rfl, rfl, by decide +kernel, rfl, by decide +kernel, by decide +kernel⟩
theorem ok_sLWay {f : Addr} {fd : FuncData} (F : Fun K "_law_way" "_law_way" sLWay f fd) (H_law_spot : Has P w K mg base "_law_spot" p_lspot 3 (spN3 K)) : FnOk P w K mg base CX0 4 f fd p_lway (spP2 K wayL) := by
  refine F.ok sc_sLWay (fun vs H Q E h => ?_) (fun cdv A outer s H vs Q E hr h => ?_)
  · obtain ⟨_, _, _, _, _, _, _, _, _, _, _, _, rfl, _⟩ := h
    rfl
  · obtain ⟨va, vb, a, b, x, y, w, x', y', w', n, m, rfl, ⟨ta, rfl, sa⟩, ⟨tb, rfl, sb⟩, PA, PB, hn, hm, q⟩ := h
    have ea := PA.eq
    have eb := PB.eq
    subst ea eb
    refine ⟨_, (pss_one (ps_ret (pe_has H_law_spot (hr.mono (by decide)) (by rfl) (pa_cons (pe_op op_sub (pe_op op_mulW (pe_ix (r := rIxT K) ix_tup (pv 1) pe_int (fun _ _ => rfl)) (pe_ix (r := rIxT K) ix_tup (pv 0) pe_int (fun _ _ => rfl))) (pe_op op_mulW (pe_ix (r := rIxT K) ix_tup (pv 0) pe_int (fun _ _ => rfl)) (pe_ix (r := rIxT K) ix_tup (pv 1) pe_int (fun _ _ => rfl)))) (pa_cons (pe_op op_sub (pe_op op_mulW (pe_ix (r := rIxT K) ix_tup (pv 1) pe_int (fun _ _ => rfl)) (pe_ix (r := rIxT K) ix_tup (pv 0) pe_int (fun _ _ => rfl))) (pe_op op_mulW (pe_ix (r := rIxT K) ix_tup (pv 0) pe_int (fun _ _ => rfl)) (pe_ix (r := rIxT K) ix_tup (pv 1) pe_int (fun _ _ => rfl)))) (pa_cons (pe_op op_mulW (pe_ix (r := rIxT K) ix_tup (pv 0) pe_int (fun _ _ => rfl)) (pe_ix (r := rIxT K) ix_tup (pv 1) pe_int (fun _ _ => rfl))) pa_nil)))))), ?_⟩
    refine ⟨_, rfl, tb, _, 0, _, rfl, rfl, sb, rfl, _, rfl, ta, _, 2, _, rfl, rfl, sa, rfl, _, _, rfl, rfl, mw (lw PB.bx hm) (lw PA.bw hn), _, rfl, ta, _, 0, _, rfl, rfl, sa, rfl, _, rfl, tb, _, 2, _, rfl, rfl, sb, rfl, _, _, rfl, rfl, mw (lw PA.bx hn) (lw PB.bw hm), _, _, rfl, rfl, _, rfl, tb, _, 1, _, rfl, rfl, sb, rfl, _, rfl, ta, _, 2, _, rfl, rfl, sa, rfl, _, _, rfl, rfl, mw (lw PB.bby hm) (lw PA.bw hn), _, rfl, ta, _, 1, _, rfl, rfl, sa, rfl, _, rfl, tb, _, 2, _, rfl, rfl, sb, rfl, _, _, rfl, rfl, mw (lw PA.bby hn) (lw PB.bw hm), _, _, rfl, rfl, _, rfl, ta, _, 2, _, rfl, rfl, sa, rfl, _, rfl, tb, _, 2, _, rfl, rfl, sb, rfl, _, _, rfl, rfl, mw (lw PA.bw hn) (lw PB.bw hm), ?_⟩
    have h2 := two2 hm hn hn hm
    exact ⟨_, _, _, rfl, Int.mul_pos PA.pos PB.pos, leW (subb (mulb PB.bx PA.bw) (mulb PA.bx PB.bw)) h2, leW (subb (mulb PB.bby PA.bw) (mulb PA.bby PB.bw)) h2, leW (mulb PA.bw PB.bw) (Nat.le_trans (Nat.le_add_left _ _) h2), fun p H' s' tp => q p H' s' tp⟩
theorem sc_sLOn : FnScope p_lon p_lon (defScope sLOn) := ⟨rfl, rfl, rfl, by decide +kernel, rfl, by decide +kernel, by decide +kernel⟩
theorem ok_sLOn {f : Addr} {fd : FuncData} (F : Fun K "_law_on" "_law_on" sLOn f fd) (H_law_spot : Has P w K mg base "_law_spot" p_lspot 3 (spN3 K)) : FnOk P w K mg base CX0 4 f fd p_lon (spP2 K sumL) := by
  refine F.ok sc_sLOn (fun vs H Q E h => ?_) (fun cdv A outer s H vs Q E hr h => ?_)
  · obtain ⟨_, _, _, _, _, _, _, _, _, _, _, _, rfl, _⟩ := h
    rfl
  · obtain ⟨va, vb, a, b, x, y, w, x', y', w', n, m, rfl, ⟨ta, rfl, sa⟩, ⟨tb, rfl, sb⟩, PA, PB, hn, hm, q⟩ := h
    have ea := PA.eq
    have eb := PB.eq
    subst ea eb
    refine ⟨_, (pss_one (ps_ret (pe_has H_law_spot (hr.mono (by decide)) (by rfl) (pa_cons (pe_op op_add (pe_op op_mulW (pe_ix (r := rIxT K) ix_tup (pv 0) pe_int (fun _ _ => rfl)) (pe_ix (r := rIxT K) ix_tup (pv 1) pe_int (fun _ _ => rfl))) (pe_op op_mulW (pe_ix (r := rIxT K) ix_tup (pv 1) pe_int (fun _ _ => rfl)) (pe_ix (r := rIxT K) ix_tup (pv 0) pe_int (fun _ _ => rfl)))) (pa_cons (pe_op op_add (pe_op op_mulW (pe_ix (r := rIxT K) ix_tup (pv 0) pe_int (fun _ _ => rfl)) (pe_ix (r := rIxT K) ix_tup (pv 1) pe_int (fun _ _ => rfl))) (pe_op op_mulW (pe_ix (r := rIxT K) ix_tup (pv 1) pe_int (fun _ _ => rfl)) (pe_ix (r := rIxT K) ix_tup (pv 0) pe_int (fun _ _ => rfl)))) (pa_cons (pe_op op_mulW (pe_ix (r := rIxT K) ix_tup (pv 0) pe_int (fun _ _ => rfl)) (pe_ix (r := rIxT K) ix_tup (pv 1) pe_int (fun _ _ => rfl))) pa_nil)))))), ?_⟩
    refine ⟨_, rfl, ta, _, 0, _, rfl, rfl, sa, rfl, _, rfl, tb, _, 2, _, rfl, rfl, sb, rfl, _, _, rfl, rfl, mw (lw PA.bx hn) (lw PB.bw hm), _, rfl, tb, _, 0, _, rfl, rfl, sb, rfl, _, rfl, ta, _, 2, _, rfl, rfl, sa, rfl, _, _, rfl, rfl, mw (lw PB.bx hm) (lw PA.bw hn), _, _, rfl, rfl, _, rfl, ta, _, 1, _, rfl, rfl, sa, rfl, _, rfl, tb, _, 2, _, rfl, rfl, sb, rfl, _, _, rfl, rfl, mw (lw PA.bby hn) (lw PB.bw hm), _, rfl, tb, _, 1, _, rfl, rfl, sb, rfl, _, rfl, ta, _, 2, _, rfl, rfl, sa, rfl, _, _, rfl, rfl, mw (lw PB.bby hm) (lw PA.bw hn), _, _, rfl, rfl, _, rfl, ta, _, 2, _, rfl, rfl, sa, rfl, _, rfl, tb, _, 2, _, rfl, rfl, sb, rfl, _, _, rfl, rfl, mw (lw PA.bw hn) (lw PB.bw hm), ?_⟩
    have h2 := two2 hn hm hm hn
    exact ⟨_, _, _, rfl, Int.mul_pos PA.pos PB.pos, leW (addb (mulb PA.bx PB.bw) (mulb PB.bx PA.bw)) h2, leW (addb (mulb PA.bby PB.bw) (mulb PB.bby PA.bw)) h2, leW (mulb PA.bw PB.bw) (Nat.le_trans (Nat.le_add_right _ _) h2), fun p H' s' tp => q p H' s' tp⟩
theorem sc_sLCross : FnScope p_lsg p_lsg (defScope sLCross) := ⟨rfl, rfl, rfl, by decide +kernel, rfl, by decide +kernel, by decide +kernel⟩
theorem ok_sLCross {f : Addr} {fd : FuncData} (F : Fun K "_law_cross" "_law_cross" sLCross f fd) (H_law_frac : Has P w K mg base "_law_frac" p_lfrac 3 (spN2 K)) : FnOk P w K mg base CX0 4 f fd p_lsg (spP2 K crsL) := by
  refine F.ok sc_sLCross (fun vs H Q E h => ?_) (fun cdv A outer s H vs Q E hr h => ?_)
  · obtain ⟨_, _, _, _, _, _, _, _, _, _, _, _, rfl, _⟩ := h
    rfl
  · obtain ⟨va, vb, a, b, x, y, w, x', y', w', n, m, rfl, ⟨ta, rfl, sa⟩, ⟨tb, rfl, sb⟩, PA, PB, hn, hm, q⟩ := h
    have ea := PA.eq
    have eb := PB.eq
    subst ea eb
    refine ⟨_, (pss_one (ps_ret (pe_has H_law_frac (hr.mono (by decide)) (by rfl) (pa_cons (pe_op op_sub (pe_op op_mulW (pe_ix (r := rIxT K) ix_tup (pv 0) pe_int (fun _ _ => rfl)) (pe_ix (r := rIxT K) ix_tup (pv 1) pe_int (fun _ _ => rfl))) (pe_op op_mulW (pe_ix (r := rIxT K) ix_tup (pv 0) pe_int (fun _ _ => rfl)) (pe_ix (r := rIxT K) ix_tup (pv 1) pe_int (fun _ _ => rfl)))) (pa_cons (pe_op op_mulW (pe_ix (r := rIxT K) ix_tup (pv 0) pe_int (fun _ _ => rfl)) (pe_ix (r := rIxT K) ix_tup (pv 1) pe_int (fun _ _ => rfl))) pa_nil))))), ?_⟩
    refine ⟨_, rfl, ta, _, 0, _, rfl, rfl, sa, rfl, _, rfl, tb, _, 1, _, rfl, rfl, sb, rfl, _, _, rfl, rfl, mw (lw PA.bx hn) (lw PB.bby hm), _, rfl, ta, _, 1, _, rfl, rfl, sa, rfl, _, rfl, tb, _, 0, _, rfl, rfl, sb, rfl, _, _, rfl, rfl, mw (lw PA.bby hn) (lw PB.bx hm), _, _, rfl, rfl, _, rfl, ta, _, 2, _, rfl, rfl, sa, rfl, _, rfl, tb, _, 2, _, rfl, rfl, sb, rfl, _, _, rfl, rfl, mw (lw PA.bw hn) (lw PB.bw hm), ?_⟩
    have h3 := one2 hn hm
    exact ⟨_, _, rfl, Int.mul_pos PA.pos PB.pos, leW (subb (mulb PA.bx PB.bby) (mulb PA.bby PB.bx)) (two2 hn hm hn hm), leW (mulb PA.bw PB.bw) h3, fun p H' s' tp => q p H' s' tp⟩
theorem sc_lby : FnScope p_lby p_lby (defScope sLBy) := ⟨rfl, rfl, rfl, by decide +kernel, rfl, by decide +kernel, by decide +kernel⟩
theorem ok_lby {f : Addr} {fd : FuncData} (F : Fun K "_law_by" "_law_by" sLBy f fd) (H_law_spot : Has P w K mg base "_law_spot" p_lspot 3 (spN3 K)) : FnOk P w K mg base CX0 4 f fd p_lby (spPF K byL) := by
  refine F.ok sc_lby (fun vs H Q E h => ?_) (fun cdv A outer s H vs Q E hr h => ?_)
  · obtain ⟨_, _, _, _, _, _, _, _, _, _, _, rfl, _⟩ := h
    rfl
  · obtain ⟨va, vb, a, b, x, y, w, t, e, n, m, rfl, ⟨ta, rfl, sa⟩, ⟨tb, rfl, sb⟩, PA, PB, hn, hm, q⟩ := h
    have ea := PA.eq
    have eb := PB.eq
    subst ea eb
    refine ⟨_, (pss_one (ps_ret (pe_has H_law_spot (hr.mono (by decide)) (by rfl) (pa_cons (pe_op op_mulW (pe_ix (r := rIxT K) ix_tup (pv 0) pe_int (fun _ _ => rfl)) (pe_ix (r := rIxT K) ix_tup (pv 1) pe_int (fun _ _ => rfl))) (pa_cons (pe_op op_mulW (pe_ix (r := rIxT K) ix_tup (pv 0) pe_int (fun _ _ => rfl)) (pe_ix (r := rIxT K) ix_tup (pv 1) pe_int (fun _ _ => rfl))) (pa_cons (pe_op op_mulW (pe_ix (r := rIxT K) ix_tup (pv 0) pe_int (fun _ _ => rfl)) (pe_ix (r := rIxT K) ix_tup (pv 1) pe_int (fun _ _ => rfl))) pa_nil)))))), ?_⟩
    refine ⟨_, rfl, ta, _, 0, _, rfl, rfl, sa, rfl, _, rfl, tb, _, 0, _, rfl, rfl, sb, rfl, _, _, rfl, rfl, mw (lw PA.bx hn) (lw PB.bt hm), _, rfl, ta, _, 1, _, rfl, rfl, sa, rfl, _, rfl, tb, _, 0, _, rfl, rfl, sb, rfl, _, _, rfl, rfl, mw (lw PA.bby hn) (lw PB.bt hm), _, rfl, ta, _, 2, _, rfl, rfl, sa, rfl, _, rfl, tb, _, 1, _, rfl, rfl, sb, rfl, _, _, rfl, rfl, mw (lw PA.bw hn) (lw PB.bb hm), ?_⟩
    have h2 := one2 hn hm
    exact ⟨_, _, _, rfl, Int.mul_pos PA.pos PB.pos, leW (mulb PA.bx PB.bt) h2, leW (mulb PA.bby PB.bt) h2, leW (mulb PA.bw PB.bb) h2, fun p H' s' tp => q p H' s' tp⟩
abbrev p_lstep : List Str := ["_law_step"]
theorem sc_lquarter : FnScope p_lstep p_lstep (defScope sLQuarter) := ⟨rfl, rfl, rfl, by decide +kernel, rfl, by decide +kernel, by decide +kernel⟩
theorem ok_lquarter {f : Addr} {fd : FuncData} (F : Fun K "_law_quarter" "_law_quarter" sLQuarter f fd) : FnOk P w K mg base CX0 1 f fd p_lstep (spP1 K qtrL) := by
  refine F.ok sc_lquarter (fun vs H Q E h => ?_) (fun cdv A outer s H vs Q E hr h => ?_)
  · obtain ⟨_, _, _, _, _, _, rfl, _⟩ := h
    rfl
  · obtain ⟨va, a, x, y, w, n, rfl, ⟨ta, rfl, sa⟩, PA, hn, q⟩ := h
    have ea := PA.eq
    subst ea
    refine ⟨_, (pss_one (ps_ret (pe_tup (pa_cons (pe_un un_neg (pe_ix (r := rIxT K) ix_tup (pv 0) pe_int (fun _ _ => rfl))) (pa_cons (pe_ix (r := rIxT K) ix_tup (pv 0) pe_int (fun _ _ => rfl)) (pa_cons (pe_ix (r := rIxT K) ix_tup (pv 0) pe_int (fun _ _ => rfl)) pa_nil)))))), ?_⟩
    refine ⟨_, rfl, ta, _, 1, _, rfl, rfl, sa, rfl, _, rfl, _, rfl, ta, _, 0, _, rfl, rfl, sa, rfl, _, rfl, ta, _, 2, _, rfl, rfl, sa, rfl, by show 3 ≤ sizeLine; decide, fun p hp => ?_⟩
    exact q _ _ (same_new hp) ⟨p, rfl, SqT.of upd_same⟩
abbrev p_lside : List Str := ["_law_spot_here", "_law_goal", "_law_mate"]
theorem sc_lside : FnScope p_lside p_lside (defScope sLSide) := ⟨rfl, rfl, rfl, by decide +kernel, rfl, by decide +kernel, by decide +kernel⟩
def spLSide (K : PySem.W.Frag) : Sp := fun vs H Q _ => ∃ (v v' v'' : V) (a b c : List Int) (x y w x' y' w' p q r : Int) (l : Nat), vs = [v, v', v''] ∧ Tp K H v a ∧ Tp K H v' b ∧ Tp K H v'' c ∧ PtL 100 a x y w ∧ PtL 100 b x' y' w' ∧ PtL l c p q r ∧ l ≤ 2 ^ 30 ∧
  ∀ H', Same H H' → Q (.int (sidL a b c)) H'
theorem ok_lside {f : Addr} {fd : FuncData} (F : Fun K "_law_side" "_law_side" sLSide f fd) (H_law_way : Has P w K mg base "_law_way" p_lway 4 (spP2 K wayL)) (H_law_cross : Has P w K mg base "_law_cross" p_lsg 4 (spP2 K crsL)) (H_law_sign : Has P w K mg base "_law_sign" p_lnum 1 spSgn) : FnOk P w K mg base CX0 5 f fd p_lside (spLSide K) := by
  refine F.ok sc_lside (fun vs H Q E h => ?_) (fun cdv A outer s H vs Q E hr h => ?_)
  · obtain ⟨_, _, _, _, _, _, _, _, _, _, _, _, _, _, _, _, rfl, _⟩ := h
    rfl
  · obtain ⟨va, vb, vc, a, b, c, x, y, w, x', y', w', p, q', r, l, rfl, ta, tb, tc, PA, PB, PC, hl, q⟩ := h
    refine ⟨_, (pss_one (ps_ret (pe_has H_law_sign (hr.mono (by decide)) (by rfl) (pa_cons (pe_ix (r := rIxT K) ix_tup (pe_has H_law_cross (hr.mono (by decide)) (by rfl) (pa_cons (pe_has H_law_way (hr.mono (by decide)) (by rfl) (pa_cons (pv 0) (pa_cons (pv 1) pa_nil))) (pa_cons (pe_has H_law_way (hr.mono (by decide)) (by rfl) (pa_cons (pv 0) (pa_cons (pv 2) pa_nil))) pa_nil))) pe_int (fun _ _ => rfl)) pa_nil)))), ?_⟩
    obtain ⟨_, _, _, _, _, _, _, _, W1⟩ := pt_way PA PB
    obtain ⟨_, _, _, _, _, _, _, _, W2'⟩ := pt_way PA PC
    have hw : 100 ≤ WB := le_wb (k := 7) (by decide) (by decide)
    have hw3 : 2 ^ 30 ≤ WB := le_wb (k := 30) (Nat.le_refl _) (by decide)
    have hw2 : 100 * 100 + 100 * 100 ≤ WB := le_wb (k := 15) (by decide) (by decide)
    have hw4 : ∀ {l : Nat}, l ≤ 2 ^ 30 → l * 100 + 100 * l ≤ WB := fun h => le_wb (k := 40) (by omega) (by decide)
    obtain ⟨t, e, e1, e2⟩ := side_is PA PB PC
    refine ⟨_, rfl, _, rfl, va, vb, a, b, _, _, _, _, _, _, _, _, rfl, ta, tb, PA, PB, hw, hw, fun p1 H1 s1 t1 => ⟨_, rfl, _, rfl, va, vc, a, c, _, _, _, _, _, _, _, _, rfl, ta.same s1, tc.same s1, PA, PC, hw, Nat.le_trans hl hw3, fun p2 H2 s2 t2 => ?_⟩⟩
    refine ⟨_, _, _, _, _, _, _, _, _, _, _, _, rfl, t1.same s2, t2, W1, W2', hw2, hw4 hl, fun p3 H3 s3 t3 => ?_⟩
    rw [e1] at t3
    obtain ⟨t3, rfl, q3⟩ := t3
    refine ⟨t3, _, 0, _, rfl, rfl, q3, rfl, t, rfl, ?_⟩
    rw [e2]
    exact q H3 ((s1.trans s2).trans s3)
/-! ### the law's sums, signs, heights -/
def addF : List Int → List Int → List Int
  | [t, e], [u, d] => thin [t * d + u * e, e * d]
  | _, _ => []
def spFF (K : PySem.W.Frag) : Sp := fun vs H Q _ => ∃ (v v' : V) (a b : List Int) (t e u d : Int) (n m : Nat), vs = [v, v'] ∧ Tp K H v a ∧ Tp K H v' b ∧ FrL n a t e ∧ FrL m b u d ∧ n ≤ WB ∧ m ≤ WB ∧ ∀ p H', Same H H' → Tp K H' p (addF a b) → Q p H'
abbrev p_l12 : List Str := ["_law_one", "_law_two"]
theorem sc_ladd : FnScope p_l12 p_l12 (defScope sLAdd) := ⟨rfl, rfl, rfl, by decide +kernel, rfl, by decide +kernel, by decide +kernel⟩
theorem ok_ladd {f : Addr} {fd : FuncData} (F : Fun K "_law_add" "_law_add" sLAdd f fd) (H_law_frac : Has P w K mg base "_law_frac" p_lfrac 3 (spN2 K)) : FnOk P w K mg base CX0 4 f fd p_l12 (spFF K) := by
  refine F.ok sc_ladd (fun vs H Q E h => ?_) (fun cdv A outer s H vs Q E hr h => ?_)
  · obtain ⟨_, _, _, _, _, _, _, _, _, _, rfl, _⟩ := h
    rfl
  · obtain ⟨va, vb, a, b, t, e, u, d, n, m, rfl, ⟨ta, rfl, sa⟩, ⟨tb, rfl, sb⟩, PA, PB, hn, hm, q⟩ := h
    have ea := PA.eq
    have eb := PB.eq
    subst ea eb
    refine ⟨_, (pss_one (ps_ret (pe_has H_law_frac (hr.mono (by decide)) (by rfl) (pa_cons (pe_op op_add (pe_op op_mulW (pe_ix (r := rIxT K) ix_tup (pv 0) pe_int (fun _ _ => rfl)) (pe_ix (r := rIxT K) ix_tup (pv 1) pe_int (fun _ _ => rfl))) (pe_op op_mulW (pe_ix (r := rIxT K) ix_tup (pv 1) pe_int (fun _ _ => rfl)) (pe_ix (r := rIxT K) ix_tup (pv 0) pe_int (fun _ _ => rfl)))) (pa_cons (pe_op op_mulW (pe_ix (r := rIxT K) ix_tup (pv 0) pe_int (fun _ _ => rfl)) (pe_ix (r := rIxT K) ix_tup (pv 1) pe_int (fun _ _ => rfl))) pa_nil))))), ?_⟩
    exact ⟨_, rfl, ta, _, 0, _, rfl, rfl, sa, rfl, _, rfl, tb, _, 1, _, rfl, rfl, sb, rfl, _, _, rfl, rfl, mw (lw PA.bt hn) (lw PB.bb hm), _, rfl, tb, _, 0, _, rfl, rfl, sb, rfl, _, rfl, ta, _, 1, _, rfl, rfl, sa, rfl, _, _, rfl, rfl, mw (lw PB.bt hm) (lw PA.bb hn), _, _, rfl, rfl,
      _, rfl, ta, _, 1, _, rfl, rfl, sa, rfl, _, rfl, tb, _, 1, _, rfl, rfl, sb, rfl, _, _, rfl, rfl, mw (lw PA.bb hn) (lw PB.bb hm), _, _, rfl, Int.mul_pos PA.pos PB.pos, leW (addb (mulb PA.bt PB.bb) (mulb PB.bt PA.bb)) (two2 hn hm hm hn), leW (mulb PA.bb PB.bb) (one2 hn hm), fun p H' s' tp => q p H' s' tp⟩
theorem sgn_bits (n : Int) : sgn n = (if decide (0 < n) = true then 1 else 0) - (if decide (n < 0) = true then 1 else 0) := by
  unfold sgn
  by_cases h1 : 0 < n
  · rw [if_pos h1, decide_eq_true h1, decide_eq_false (by omega)]
    rfl
  · by_cases h2 : n < 0
    · rw [if_neg h1, if_pos h2, decide_eq_false h1, decide_eq_true h2]
      rfl
    · rw [if_neg h1, if_neg h2, decide_eq_false h1, decide_eq_false h2]
      rfl
abbrev n_lcmp : List Str := ["_law_one", "_law_two", "_law_gap"]
theorem sc_lcmp : FnScope n_lcmp p_l12 (defScope sLCmp) := ⟨rfl, rfl, rfl, by decide +kernel, rfl, by decide +kernel, by decide +kernel⟩
theorem ok_lcmp {f : Addr} {fd : FuncData} (F : Fun K "_law_cmp" "_law_cmp" sLCmp f fd) (T : Bl mg) : FnOk P w K mg base CX0 1 f fd p_l12 (spOrd K) := by
  refine F.ok sc_lcmp (fun vs H Q E h => ?_) (fun cdv A outer s H vs Q E hr h => ?_)
  · obtain ⟨_, _, _, _, _, _, _, _, _, _, rfl, _⟩ := h
    rfl
  · obtain ⟨va, vb, a, b, t, e, u, d, n, m, rfl, ⟨ta, rfl, sa⟩, ⟨tb, rfl, sb⟩, PA, PB, hn, hm, q⟩ := h
    have ea := PA.eq
    have eb := PB.eq
    subst ea eb
    refine ⟨_, (pss_cons (ps_set (i := 2) sc_lcmp.nd rfl (Or.inl rfl) (pe_op op_sub (pe_op op_mulW (pe_ix (r := rIxT K) ix_tup (pv 0) pe_int (fun _ _ => rfl)) (pe_ix (r := rIxT K) ix_tup (pv 1) pe_int (fun _ _ => rfl))) (pe_op op_mulW (pe_ix (r := rIxT K) ix_tup (pv 1) pe_int (fun _ _ => rfl)) (pe_ix (r := rIxT K) ix_tup (pv 0) pe_int (fun _ _ => rfl)))))
      (pss_one (ps_ret (pe_op op_sub (pe_callTy call_int1 (by rfl) T.int PyProof.Rows.boot_int (pa_cons (pe_cmpR op_gt (pv 2) pe_int (nomark _)) pa_nil)) (pe_callTy call_int1 (by rfl) T.int PyProof.Rows.boot_int (pa_cons (pe_cmpR op_lt (pv 2) pe_int (nomark _)) pa_nil)))))), ?_⟩
    refine ⟨_, rfl, ta, _, 0, _, rfl, rfl, sa, rfl, _, rfl, tb, _, 1, _, rfl, rfl, sb, rfl, _, _, rfl, rfl, m2 (l2 PA.bt hn) (l2 PB.bb hm), _, rfl, tb, _, 0, _, rfl, rfl, sb, rfl, _, rfl, ta, _, 1, _, rfl, rfl, sa, rfl, _, _, rfl, rfl, m2 (l2 PB.bt hm) (l2 PA.bb hn), _, _, rfl, rfl, ?_⟩
    have q' : Q (.int (sgn (t * d - u * e))) H := q
    rw [sgn_bits] at q'
    exact ⟨_, rfl, _, _, rfl, rfl, Or.inr ⟨_, rfl, _, rfl, _, _, rfl, rfl, Or.inr ⟨_, rfl, _, _, rfl, rfl, q'⟩⟩⟩
def befL : List Int → List Int → Bool
  | [x, y, w], [u, v, z] => decide (0 < u * w - x * z) || (decide (u * w - x * z = 0) && decide (0 < v * w - y * z))
  | _, _ => false
def spBef (K : PySem.W.Frag) : Sp := fun vs H Q _ => ∃ (v v' : V) (a b : List Int) (x y w x' y' w' : Int) (n m : Nat), vs = [v, v'] ∧ Tp K H v a ∧ Tp K H v' b ∧ PtL n a x y w ∧ PtL m b x' y' w' ∧ n ≤ WB ∧ m ≤ WB ∧ ∀ H', Same H H' → Q (.bl (befL a b)) H'
abbrev n_lbef : List Str := ["_law_spot_here", "_law_goal", "_law_gap"]
theorem sc_lbef : FnScope n_lbef p_lway (defScope sLBefore) := ⟨rfl, rfl, rfl, by decide +kernel, rfl, by decide +kernel, by decide +kernel⟩
theorem gpos {g p a : Int} (hg : 0 < g) (e : a = g * p) : decide (0 < p) = decide (0 < a) := by
  subst e
  refine decide_eq_decide.mpr ⟨fun h => Int.mul_pos hg h, fun h => Int.pos_of_mul_pos_right h hg⟩
theorem gnil {g p a : Int} (hg : 0 < g) (e : a = g * p) : decide (p = 0) = decide (a = 0) := by
  subst e
  refine decide_eq_decide.mpr ⟨fun h => by rw [h, Int.mul_zero], fun h => ?_⟩
  rcases Int.mul_eq_zero.mp h with h | h
  · omega
  · exact h
theorem ok_lbef {f : Addr} {fd : FuncData} (F : Fun K "_law_before" "_law_before" sLBefore f fd) (H_law_way : Has P w K mg base "_law_way" p_lway 4 (spP2 K wayL)) : FnOk P w K mg base CX0 5 f fd p_lway (spBef K) := by
  refine F.ok sc_lbef (fun vs H Q E h => ?_) (fun cdv A outer s H vs Q E hr h => ?_)
  · obtain ⟨_, _, _, _, _, _, _, _, _, _, _, _, rfl, _⟩ := h
    rfl
  · obtain ⟨va, vb, a, b, x, y, w, x', y', w', n, m, rfl, ta, tb, PA, PB, hn, hm, q⟩ := h
    refine ⟨_, (pss_cons (ps_set (i := 2) sc_lbef.nd rfl (Or.inl rfl) (pe_has H_law_way (hr.mono (by decide)) (by rfl) (pa_cons (pv 0) (pa_cons (pv 1) pa_nil))))
      (pss_one (ps_ret (pe_or (pe_cmpR op_gt (pe_ix (r := rIxT K) ix_tup (pv 2) pe_int (fun _ _ => rfl)) pe_int (nomark _)) (pe_one (pe_and (pe_cmpR op_eq (pe_ix (r := rIxT K) ix_tup (pv 2) pe_int (fun _ _ => rfl)) pe_int (nomark _)) (pe_one (pe_cmpR op_gt (pe_ix (r := rIxT K) ix_tup (pv 2) pe_int (fun _ _ => rfl)) pe_int (nomark _))))))))), ?_⟩
    obtain ⟨g, p, q', r, g0, e1, e2, e3, PW⟩ := pt_way PA PB
    have ew := PW.eq
    have eB : befL a b = (decide (0 < p) || (decide (p = 0) && decide (0 < q'))) := by
      have ea := PA.eq
      have eb := PB.eq
      subst ea eb
      rw [gpos g0 e1, gnil g0 e1, gpos g0 e2]
      rfl
    refine ⟨_, rfl, _, rfl, va, vb, a, b, _, _, _, _, _, _, _, _, rfl, ta, tb, PA, PB, hn, hm, fun v1 H1 s1 t1 => ?_⟩
    rw [ew] at t1
    obtain ⟨t1, rfl, st1⟩ := t1
    have q1 := q H1 s1
    rw [eB] at q1
    refine ⟨_, rfl, t1, _, 0, _, rfl, rfl, st1, rfl, _, _, rfl, rfl, _, rfl, ?_⟩
    refine ite2 (fun c
          => ?_) (fun c => ?_)
    · rw [c] at q1
      exact q1
    · rw [Bool.eq_false_iff.mpr c] at q1
      refine ⟨_, rfl, t1, _, 0, _, rfl, rfl, st1, rfl, rfl, _, rfl, ?_⟩
      have e0 : decide (V.int p = V.int 0) = decide (p = 0) := decide_eq_decide.mpr ⟨fun h => V.int.inj h, fun h => by rw [h]⟩
      refine ite2 (fun d => ?_) (fun d => ?_)
      · rw [e0] at d
        rw [d] at q1
        refine ⟨_, rfl, t1, _, 1, _, rfl, rfl, st1, rfl, _, _, rfl, rfl, ?_⟩
        exact q1
      · rw [e0] at d
        rw [Bool.eq_false_iff.mpr d] at q1
        exact q1
abbrev p_ltall : List Str := ["_law_aim_here", "_law_spot_here"]
theorem sc_ltall : FnScope p_ltall p_ltall (defScope sLTall) := ⟨rfl, rfl, rfl, by decide +kernel, rfl, by decide +kernel, by decide +kernel⟩
theorem ok_ltall {f : Addr} {fd : FuncData} (F : Fun K "_law_tall" "_law_tall" sLTall f fd) (H_law_frac : Has P w K mg base "_law_frac" p_lfrac 3 (spN2 K)) : FnOk P w K mg base CX0 4 f fd p_ltall (spUp K) := by
  refine F.ok sc_ltall (fun vs H Q E h => ?_) (fun cdv A outer s H vs Q E hr h => ?_)
  · obtain ⟨_, _, _, _, _, _, _, _, _, _, _, rfl, _⟩ := h
    rfl
  · obtain ⟨va, vb, a, b, c, s', x, y, w, n, m, rfl, ⟨ta, rfl, sa⟩, ⟨tb, rfl, sb⟩, PA, PB, h1, hn, hm, q⟩ := h
    have ea := PA.eq
    have eb := PB.eq
    subst ea eb
    refine ⟨_, (pss_one (ps_ret (pe_has H_law_frac (hr.mono (by decide)) (by rfl) (pa_cons (pe_op op_add (pe_op op_mulW (pe_ix (r := rIxT K) ix_tup (pv 0) pe_int (fun _ _ => rfl)) (pe_ix (r := rIxT K) ix_tup (pv 1) pe_int (fun _ _ => rfl))) (pe_op op_mulW (pe_ix (r := rIxT K) ix_tup (pv 0) pe_int (fun _ _ => rfl)) (pe_ix (r := rIxT K) ix_tup (pv 1) pe_int (fun _ _ => rfl)))) (pa_cons (pe_ix (r := rIxT K) ix_tup (pv 1) pe_int (fun _ _ => rfl)) pa_nil))))), ?_⟩
    refine ⟨_, rfl, ta, _, 0, _, rfl, rfl, sa, rfl, _, rfl, tb, _, 0, _, rfl, rfl, sb, rfl, _, _, rfl, rfl, mw (lw PA.bc hn) (lw PB.bx hm), _, rfl, ta, _, 1, _, rfl, rfl, sa, rfl, _, rfl, tb, _, 1, _, rfl, rfl, sb, rfl, _, _, rfl, rfl, mw (lw PA.bs hn) (lw PB.bby hm), _, _, rfl, rfl, _, rfl, tb, _, 2, _, rfl, rfl, sb, rfl, _, _, rfl, PB.pos, leW (addb (mulb PA.bc PB.bx) (mulb PA.bs PB.bby)) (two2 hn hm hn hm), leW (Nat.le_trans PB.bw (Nat.le_mul_of_pos_left _ h1)) (one2 hn hm), fun p H' s9 tp => q p H' s9 ?_⟩
    show Tp K H' p (thin [c * x + s' * y, 1 * w])
    rw [Int.one_mul]
    exact tp
end
end K8

namespace Ur
open PySem L2 PyProof.Rows
/-! ### lcm of small numbers -/
def rLcm : List V → Hp → VK → Prop := fun vs H Q => ∃ a b : Nat, vs = [.int (a : Int), .int (b : Int)] ∧ a < 2 ^ 64 ∧ b < 2 ^ 64 ∧ Q (.int ((Nat.lcm a b : Nat) : Int)) H
theorem lcm_lt {a b : Nat} (ha : a < 2 ^ 64) (hb : b < 2 ^ 64) : Nat.lcm a b < 2 ^ 128 := by
  have h1 : Nat.lcm a b ≤ a * b := Nat.div_le_self _ _
  have h2 : a * b < 2 ^ 64 * 2 ^ 64 := Nat.mul_lt_mul'' ha hb
  rw [← Nat.pow_add] at h2
  exact Nat.lt_of_le_of_lt h1 h2
theorem cr_lcm {X : Cx} : CallR X (.builtin "math.lcm") rLcm := by
  intro pins s σ
        H vs us Q I r h
  obtain ⟨a, b, rfl, ha, hb, q⟩ := h
  obtain ⟨t, u, rfl⟩
        := Vals.int2 r
  refine PySem.W.mg_lcm_v (c := ((Nat.lcm a b : Nat) : Int)) (by simpa using ha) (by simpa using hb) (by simp [Nat.lcm]) ?_ ⟨.int _, H, I.tok _, ⟨_, rfl⟩, q⟩
  have h1 := lcm_lt ha hb
  rw [Int.natAbs_natCast]
  by_cases h0 : Nat.lcm a b = 0
  · rw [h0]; decide
  · exact Nat.lt_of_lt_of_le ((Nat.log2_lt h0).mpr h1) (by decide)
/-! ### the same rules, their K told -/
section
variable {X : Cx} {K : PySem.W.Frag}
theorem neD_K (hK : X.K = K) (hu : X.A.units + 64 < cLine) : OpR X (compareOp .NotEq) (rNeD K) := by
  subst hK
  exact op_neD hu
theorem eqD_K (hK : X.K = K) (hu : X.A.units + 64 < cLine) : OpR X (compareOp .Eq) (rEqD K) := by
  subst hK
  exact op_eqD hu
theorem inD_K (hK : X.K = K) (hu : X.A.units + 65 < cLine) : OpR X (compareOp .In) (rInD K) := by
  subst hK
  exact op_inD hu
theorem notInD_K (hK : X.K = K) (hu : X.A.units + 65 < cLine) : OpR X (compareOp .NotIn) (rNotInD K) := by
  subst hK
  exact op_notInD hu
end
/-! ### targets of three -/
abbrev gTrip (K : PySem.W.Frag) (i j l : Nat) : TG := gTup K 3 (gCons (gName i) (gCons (gName j) (gCons (gName l) gNil)))
theorem trip_in {K : PySem.W.Frag} {i j l : Nat} {T : Addr} {x y z : V} {σ : L2.St} {H : Hp} {Q : L2.St → Hp → Prop} (h : SqT K H T [x, y, z]) (q : Q (((σ.set i (some x)).set j (some y)).set l (some z)) H) : gTrip K i j l (.ref T) σ H Q :=
  ⟨T, [x, y, z], rfl, h, rfl, x, [y, z], rfl, y, [z], rfl, z, [], rfl, rfl, q⟩
theorem pair_in2 {K : PySem.W.Frag} {i j : Nat} {T : Addr} {x y : V} {σ : L2.St} {H : Hp} {Q : L2.St → Hp → Prop} (h : SqT K H T [x, y]) (q : Q ((σ.set i (some x)).set j (some y)) H) : gPair K i j (.ref T) σ H Q :=
  ⟨T, [x, y], rfl, h, rfl, x, [y], rfl, y, [], rfl, rfl, q⟩
/-! ### comprehensions of what stands in the heap -/
structure MadeH (H : Hp) (Pe : Hp → Nat → V → Prop) (D : Addr) (i : Nat) (H' : Hp) : Prop where
  new : H D = none
  same : Same H H'
  held : ∃ ys, H' D = some (.lst ys) ∧ ys.length = i ∧ ∀ j y, ys[j]? = some y → Pe H' j y
theorem MadeH.start {H : Hp} {Pe : Hp → Nat → V → Prop} {D : Addr} (h : H D = none) : MadeH H Pe D 0 (upd H D (.lst [])) :=
  ⟨h, same_new h, [], upd_same, rfl, fun j y e => by simp at e⟩
/-- what is told of an item stays when the list itself changes -/
abbrev Mono (H : Hp) (Pe : Hp → Nat → V → Prop) : Prop := ∀ (D : Addr) (H1 H2 : Hp) j y, H D = none → (∃ ys, H1 D = some (.lst ys)) → Same H H1 → (∀ a u, a ≠ D → H1 a = some u → H2 a = some u) → Pe H1 j y → Pe H2 j y
theorem MadeH.on {H H3 H4 : Hp} {Pe : Hp → Nat → V → Prop} (hm : Mono H Pe) {D : Addr} {i : Nat} (m : MadeH H Pe D i H3) (s : Same H3 H4) : MadeH H Pe D i H4 := by
  obtain ⟨hn, sm, ys, h1, h2, h3⟩ := m
  exact ⟨hn, sm.trans s, ys, s _ _ h1, h2, fun j y e => hm D _ _ j y hn ⟨_, h1⟩ sm (fun a u _ q => s a u q) (h3 j y e)⟩
theorem MadeH.turn {H H3 : Hp} {Pe : Hp → Nat → V → Prop} (hm : Mono H Pe) {D : Addr} {i : Nat} {te : TE} {σ2 : L2.St} (m : MadeH H Pe D i H3) (hi : i < 100000)
    (he : ∀ Q' : VK, (∀ y H4, Pe H4 i y → Same H3 H4 → Q' y H4) → te σ2 H3 Q') :
    te σ2 H3 fun y H4 => ∃ acc, H4 D = some (.lst acc) ∧ acc.length < sizeLine ∧ MadeH H Pe D (i + 1) (upd H4 D (.lst (acc ++ [y]))) := by
  obtain ⟨hn, sm, ys, h1, h2, h3⟩ := m
  refine he _ fun y H4 py s4 => ⟨ys, s4 _ _ h1, Nat.lt_of_lt_of_le (by omega : ys.length < 100000) (by decide), hn, same_own (sm.trans s4) hn, ys ++ [y], upd_same, by simp [h2], fun j z e => ?_⟩
  have keep : ∀ a u, a ≠ D → H4 a = some u → upd H4 D (.lst (ys ++ [y])) a = some u := fun a u ne q => by rw [upd_ne ne]; exact q
  by_cases hj : j < ys.length
  · rw [List.getElem?_append_left hj] at e
    exact hm D _ _ j z hn ⟨_, h1⟩ sm (fun a u ne q => keep a u ne (s4 a u q)) (h3 j z e)
  · rw [List.getElem?_append_right (by omega)] at e
    have : j = i := by
      have hl := (List.getElem?_eq_some_iff.mp e).1
      simp at hl
      omega
    subst this
    rw [← h2, Nat.sub_self] at e
    obtain rfl := Option.some.inj e
    exact hm D _ _ j _ hn ⟨_, s4 _ _ h1⟩ (sm.trans s4) keep py
section
variable {K : PySem.W.Frag} {a : Addr} {xs : List V} {te tl : TE} {ta : TA} {tt : TT} {vs : List Nat} {i1 j1 l1 : Nat} {σ : L2.St} {H : Hp} {Q : VK}
/-- [e for x, y, z in t], t a tuple -/
theorem lcT3 (pt : Nat → V × V × V) (Pe : Hp → Nat → V → Prop) (hm : Mono H Pe) (hx : ∀ R : VK, R (.ref a) H → tl σ H R) (hs : SqT K H a xs) (hp : ∀ (i : Nat) x, xs[i]? = some x → ∃ T, x = .ref T ∧ SqT K H T [(pt i).1, (pt i).2.1, (pt i).2.2]) (hz : xs.length ≤ 100000)
    (hw : ∀ x y z, wipe ((((wipe σ vs).set i1 (some x)).set j1 (some y)).set l1 (some z)) vs = wipe σ vs)
    (he : ∀ (i : Nat) x H3, xs[i]? = some x → Same H H3 → ∀ Q' : VK, (∀ y H4, Pe H4 i y → Same H3 H4 → Q' y H4) → te ((((wipe σ vs).set i1 (some (pt i).1)).set j1 (some (pt i).2.1)).set l1 (some (pt i).2.2)) H3 Q')
    (hq : ∀ D ys H', H D = none → Same H H' → H' D = some (.lst ys) → ys.length = xs.length → (∀ i y, ys[i]? = some y → Pe H' i y) → Q (.ref D) H') : tLc (iTup K tl) (gTrip K i1 j1 l1) tYes te vs σ H Q := by
  refine hx _ ⟨a, rfl, ⟨xs, hs⟩, fun D hD => ?_⟩
  refine lc_tup (xs := xs) (MadeH H Pe D) (.start hD) (fun i H' _ m => same_sqT m.same hs) (fun i x H' hi m => ?_) (fun H' ⟨hn, sm, ys, h1, h2, h3⟩ => hq D ys H' hn sm h1 h2 h3)
  obtain ⟨T, e, ht⟩ := hp i x hi
  rw [e]
  refine trip_in (same_sqT m.same ht) ⟨hw _ _ _, ?_⟩
  have hl := (List.getElem?_eq_some_iff.mp hi).1
  unfold tYes
  dsimp only
  rw [if_pos rfl]
  exact (m.turn hm (by omega) (he i x H' hi m.same))
/-- [e for x, y in l], l a list -/
theorem lcL2 (pt : Nat → V × V) (Pe : Hp → Nat → V → Prop) (hm : Mono H Pe) (hx : ∀ R : VK, R (.ref a) H → tl σ H R) (hs : SqL K H a xs) (hp : ∀ (i : Nat) x, xs[i]? = some x → ∃ T, x = .ref T ∧ SqT K H T [(pt i).1, (pt i).2]) (hz : xs.length ≤ 100000)
    (hw : ∀ x y, wipe (((wipe σ vs).set i1 (some x)).set j1 (some y)) vs = wipe σ vs)
    (he : ∀ (i : Nat) x H3, xs[i]? = some x → Same H H3 → ∀ Q' : VK, (∀ y H4, Pe H4 i y → Same H3 H4 → Q' y H4) → te (((wipe σ vs).set i1 (some (pt i).1)).set j1 (some (pt i).2)) H3 Q')
    (hq : ∀ D ys H', H D = none → Same H H' → H' D = some (.lst ys) → ys.length = xs.length → (∀ i y, ys[i]? = some y → Pe H' i y) → Q (.ref D) H') : tLc (iList K tl) (gPair K i1 j1) tYes te vs σ H Q := by
  refine hx _ ⟨a, rfl, ⟨xs, hs⟩, fun D hD => ?_⟩
  refine lc_list (xs := xs) (MadeH H Pe D) (.start hD) (fun i H' _ m => m.same.seq hs) (fun i x H' hi m => ?_) (fun H' ⟨hn, sm, ys, h1, h2, h3⟩ => hq D ys H' hn sm h1 h2 h3)
  obtain ⟨T, e, ht⟩ := hp i x hi
  rw [e]
  refine pair_in2 (same_sqT m.same ht) ⟨hw _ _, ?_⟩
  have hl := (List.getElem?_eq_some_iff.mp hi).1
  unfold tYes
  dsimp only
  rw [if_pos rfl]
  exact (m.turn hm (by omega) (he i x H' hi m.same))
/-- [e for x in l], l a list -/
theorem lcLh (Pe : Hp → Nat → V → Prop) (hm : Mono H Pe) (hx : ∀ R : VK, R (.ref a) H → tl σ H R) (hs : SqL K H a xs) (hz : xs.length ≤ 100000)
    (hw : ∀ x, wipe ((wipe σ vs).set j1 (some x)) vs = wipe σ vs)
    (he : ∀ (i : Nat) x H3, xs[i]? = some x → Same H H3 → ∀ Q' : VK, (∀ y H4, Pe H4 i y → Same H3 H4 → Q' y H4) → te ((wipe σ vs).set j1 (some x)) H3 Q')
    (hq : ∀ D ys H', H D = none → Same H H' → H' D = some (.lst ys) → ys.length = xs.length → (∀ i y, ys[i]? = some y → Pe H' i y) → Q (.ref D) H') : tLc (iList K tl) (gName j1) tYes te vs σ H Q := by
  refine hx _ ⟨a, rfl, ⟨xs, hs⟩, fun D hD => ?_⟩
  refine lc_list (xs := xs) (MadeH H Pe D) (.start hD) (fun i H' _ m => m.same.seq hs) (fun i x H' hi m => ⟨hw x, ?_⟩) (fun H' ⟨hn, sm, ys, h1, h2, h3⟩ => hq D ys H' hn sm h1 h2 h3)
  have hl := (List.getElem?_eq_some_iff.mp hi).1
  unfold tYes
  dsimp only
  rw [if_pos rfl]
  exact (m.turn hm (by omega) (he i x H' hi m.same))
/-- [e for x in t], t a tuple -/
theorem lcTh (Pe : Hp → Nat → V → Prop) (hm : Mono H Pe) (hx : ∀ R : VK, R (.ref a) H → tl σ H R) (hs : SqT K H a xs) (hz : xs.length ≤ 100000)
    (hw : ∀ x, wipe ((wipe σ vs).set j1 (some x)) vs = wipe σ vs)
    (he : ∀ (i : Nat) x H3, xs[i]? = some x → Same H H3 → ∀ Q' : VK, (∀ y H4, Pe H4 i y → Same H3 H4 → Q' y H4) → te ((wipe σ vs).set j1 (some x)) H3 Q')
    (hq : ∀ D ys H', H D = none → Same H H' → H' D = some (.lst ys) → ys.length = xs.length → (∀ i y, ys[i]? = some y → Pe H' i y) → Q (.ref D) H') : tLc (iTup K tl) (gName j1) tYes te vs σ H Q := by
  refine hx _ ⟨a, rfl, ⟨xs, hs⟩, fun D hD => ?_⟩
  refine lc_tup (xs := xs) (MadeH H Pe D) (.start hD) (fun i H' _ m => same_sqT m.same hs) (fun i x H' hi m => ⟨hw x, ?_⟩) (fun H' ⟨hn, sm, ys, h1, h2, h3⟩ => hq D ys H' hn sm h1 h2 h3)
  have hl := (List.getElem?_eq_some_iff.mp hi).1
  unfold tYes
  dsimp only
  rw [if_pos rfl]
  exact (m.turn hm (by omega) (he i x H' hi m.same))
/-- [e for x in range(n)], n drawn -/
theorem lcRh {ta : TA} {H0 : Hp} (Pn : Int → Prop) (Pe : Hp → Nat → V → Prop) (hx : ∀ R : List V → Hp → Prop, (∀ n H1, Pn n → Same H0 H1 → R [.int n] H1) → ta σ H0 R) (hb : ∀ n, Pn n → 0 ≤ n ∧ n ≤ 100000)
    (hm : ∀ H1, Same H0 H1 → Mono H1 Pe) (hw : ∀ x, wipe ((wipe σ vs).set j1 (some x)) vs = wipe σ vs)
    (he : ∀ (n : Int) (i : Nat) (H3 : Hp), Pn n → i < n → Same H0 H3 → ∀ Q' : VK, (∀ y H4, Pe H4 i y → Same H3 H4 → Q' y H4) → te ((wipe σ vs).set j1 (some (.int (0 + (i : Int))))) H3 Q')
    (hq : ∀ n D ys H', Pn n → H0 D = none → Same H0 H' → H' D = some (.lst ys) → (ys.length : Int) = n → (∀ i y, ys[i]? = some y → Pe H' i y) → Q (.ref D) H') : tLc (iRng1 ta) (gName j1) tYes te vs σ H0 Q := by
  refine hx _ fun n H1 pn s1 => ⟨n, rfl, by have := hb n pn; omega, by have := hb n pn; omega, fun D hD => ?_⟩
  have hn := hb n pn
  refine lc_range (lo := 0) (n := n.toNat) (MadeH H1 Pe D) (.start hD) (fun i H' hi m => ⟨hw _, ?_⟩) (fun H' ⟨hn, sm, ys, h1, h2, h3⟩ => hq n D ys H' pn (s1.free hn) (s1.trans sm) h1 (by omega) h3)
  unfold tYes
  dsimp only
  rw [if_pos rfl]
  exact m.turn (hm H1 s1) (by omega) (he n i H' pn (by omega) (s1.trans m.same))
/-! ### comprehensions with a test -/
/-- what passes of the first i -/
def accF {α : Type} (f : Nat → Bool) (xs : List α) : Nat → List α
  | 0 => []
  | i + 1 => if f i then accF f xs i ++ (xs[i]?).toList else accF f xs i
theorem accF_len {α : Type} (f : Nat → Bool) (xs : List α) : ∀ i, (accF f xs i).length ≤ i
  | 0 => Nat.le_refl _
  | i + 1 => by
    have := accF_len f xs i
    unfold accF
    split
    · rw [List.length_append]
      have : (xs[i]?).toList.length ≤ 1 := by cases xs[i]? <;> simp
      omega
    · omega
structure KeptF (H : Hp) (f : Nat → Bool) (xs : List V) (D : Addr) (i : Nat) (H' : Hp) : Prop where
  new : H D = none
  same : Same H H'
  held : H' D = some (.lst (accF f xs i))
theorem KeptF.put {f : Nat → Bool} {D : Addr} {i : Nat} {H3 H4 : Hp} {x : V} (m : KeptF H f xs D i H3) (s : Same H3 H4) (hi : xs[i]? = some x) (h : f i = true) : KeptF H f xs D (i + 1) (upd H4 D (.lst (accF f xs i ++ [x]))) :=
  ⟨m.new, same_own (m.same.trans s) m.new, by rw [upd_same]; show _ = some (HO.lst (if f i = true then _ else _)); rw [if_pos h, hi]; rfl⟩
theorem KeptF.skip {f : Nat → Bool} {D : Addr} {i : Nat} {H3 H4 : Hp} (m : KeptF H f xs D i H3) (s : Same H3 H4) (h : f i = false) : KeptF H f xs D (i + 1) H4 :=
  ⟨m.new, m.same.trans s, by
    show _ = some (HO.lst (if f i = true then _ else _))
    rw [h, if_neg Bool.false_ne_true]
    exact s _ _ m.held⟩
/-- [x for i, x in enumerate(l) if test] -/
theorem lcEf (f : Nat → Bool) (hx : ∀ R : List V → Hp → Prop, R [.ref a] H → ta σ H R) (hs : SqL K H a xs) (hz : xs.length ≤ 100000)
    (hw : ∀ x y, wipe (((wipe σ vs).set i1 (some x)).set j1 (some y)) vs = wipe σ vs)
    (ht : ∀ (i : Nat) x H3, xs[i]? = some x → Same H H3 → ∀ Q' : Bool → Hp → Prop, (∀ H4, Same H3 H4 → Q' (f i) H4) → tt (((wipe σ vs).set i1 (some (.int (i : Nat)))).set j1 (some x)) H3 Q')
    (he : ∀ (i : Nat) x H3 (Q' : VK), Q' x H3 → te (((wipe σ vs).set i1 (some (.int (i : Nat)))).set j1 (some x)) H3 Q')
    (hq : ∀ D H', H D = none → Same H H' → H' D = some (.lst (accF f xs xs.length)) → Q (.ref D) H') : tLc (iEnum K ta) (gPair K i1 j1) tt te vs σ H Q := by
  refine hx _ ⟨a, xs, rfl, hs, fun D hD => ?_⟩
  refine lc_it (walk_enum (K := K) (a := a) (xs := xs)) (KeptF H f xs D) ⟨hD, same_new hD, upd_same⟩ (fun i H' _ m => m.same.seq hs) (fun i v H3 H' hi m hY => ?_) (fun H' m => hq D H' m.new m.same m.held)
  obtain ⟨T, x, y', h1, h2, h3, h4, h5⟩ := hY
  cases h4
  subst h1 h3
  have s3 := same_new (p := T) (o := HO.tup [.int (i : Nat), y']) h2
  refine pair_in upd_same ⟨hw _ _, ?_⟩
  refine ht i y' _ h5 (m.same.trans s3) _ fun H4 s4 => ?_
  have s34 := s3.trans s4
  cases hf : f i with
  | true =>
    rw [if_pos rfl]
    exact he i y' _ _ ⟨accF f xs i, s34 _ _ m.held, Nat.lt_of_le_of_lt (accF_len f xs i) (Nat.lt_of_lt_of_le (by omega : i < 100001) (by decide)), m.put s34 h5 hf⟩
  | false =>
    rw [if_neg
          Bool.false_ne_true]
    exact m.skip s34 hf
/-- [x for x in l if test] -/
theorem lcLf (f : Nat → Bool) (hx : ∀ R : VK, R (.ref a) H → tl σ H R) (hs : SqL K H a xs) (hz : xs.length ≤ 100000)
    (hw : ∀ x, wipe ((wipe σ vs).set j1 (some x)) vs = wipe σ vs)
    (ht : ∀ (i : Nat) x H3, xs[i]? = some x → Same H H3 → ∀ Q' : Bool → Hp → Prop, (∀ H4, Same H3 H4 → Q' (f i) H4) → tt ((wipe σ vs).set j1 (some x)) H3 Q')
    (he : ∀ (i : Nat) x H3 (Q' : VK), Q' x H3 → te ((wipe σ vs).set j1 (some x)) H3 Q')
    (hq : ∀ D H', H D = none → Same H H' → H' D = some (.lst (accF f xs xs.length)) → Q (.ref D) H') : tLc (iList K tl) (gName j1) tt te vs σ H Q := by
  refine hx _ ⟨a, rfl, ⟨xs, hs⟩, fun D hD => ?_⟩
  refine lc_list (xs := xs) (KeptF H f xs D) ⟨hD, same_new hD, upd_same⟩ (fun i H' _ m => m.same.seq hs) (fun i x H' hi m => ⟨hw x, ?_⟩) (fun H' m => hq D H' m.new m.same m.held)
  have hl := (List.getElem?_eq_some_iff.mp hi).1
  refine ht i x _ hi m.same _ fun H4 s4 => ?_
  cases hf : f i with
  | true =>
    rw [if_pos rfl]
    exact he i x _ _ ⟨accF f xs i, s4 _ _ m.held, Nat.lt_of_le_of_lt (accF_len f xs i) (Nat.lt_of_lt_of_le (by omega : i < 100001) (by decide)), m.put s4 hi hf⟩
  | false =>
    rw [if_neg
          Bool.false_ne_true]
    exact m.skip s4 hf
end
end Ur

namespace Hull
/-! ### chains of points that bend to the left -/
abbrev P := Int × Int
def tt (a b c : P) : Int := (b.1 - a.1) * (c.2 - a.2) - (b.2 - a.2) * (c.1 - a.1)
def lt (a b : P) : Prop := a.1 < b.1 ∨ (a.1 = b.1 ∧ a.2 < b.2)
instance (a b : P) : Decidable (lt a b) := by unfold lt; exact inferInstance
section gen
variable {α β : Type}
/-- what is left of a stack when p comes: t tells that the top goes -/
def popw (t : α → α → α → Bool) (p : α) : List α → List α
  | b :: a :: r => if t a b p then popw t p (a :: r) else b :: a :: r
  | [a] => [a]
  | [] => []
def step (t : α → α → α → Bool) (st : List α) (p : α) : List α := p :: popw t p st
def stack (t : α → α → α → Bool) (l : List α) : List α := l.foldl (step t) []
def bends (t : α → α → α → Bool) (l : List α) : List α := (stack t l).reverse
theorem popw_map {t : α → α → α → Bool} {u : β → β → β → Bool} {g : α → β} (h : ∀ a b c, u (g a) (g b) (g c) = t a b c) (p : α) : ∀ st : List α, popw u (g p) (st.map g) = (popw t p st).map g
  | [] => rfl
  | [a] => rfl
  | b :: a :: r => by
    show (if u (g a) (g b) (g p) then popw u (g p) ((a :: r).map g) else (b :: a :: r).map g) = _
    rw [h, popw_map h p (a :: r)]
    show _ = (if t a b p then popw t p (a :: r) else b :: a :: r).map g
    split <;> rfl
theorem foldl_map' {t : α → α → α → Bool} {u : β → β → β → Bool} {g : α → β} (h : ∀ a b c, u (g a) (g b) (g c) = t a b c) : ∀ (l st : List α), (l.map g).foldl (step u) (st.map g) = (l.foldl (step t) st).map g
  | [], st => rfl
  | p :: l, st => by
    show (l.map g).foldl (step u) (g p :: popw u (g p) (st.map g)) = _
    rw [popw_map h p st]
    exact foldl_map' h l (p :: popw t p st)
theorem stack_map {t : α → α → α → Bool} {u : β → β → β → Bool} {g : α → β} (h : ∀ a b c, u (g a) (g b) (g c) = t a b c) (l : List α) : stack u (l.map g) = (stack t l).map g := foldl_map' h l []
theorem bends_map {t : α → α → α → Bool} {u : β → β → β → Bool} {g : α → β} (h : ∀ a b c, u (g a) (g b) (g c) = t a b c) (l : List α) : bends u (l.map g) = (bends t l).map g := by
  unfold bends
  rw [stack_map h, List.map_reverse]
/-- the corners, by the points in their order -/
def hull (t : α → α → α → Bool) (l : List α) : List α := if l.length < 2 then l else (bends t l).dropLast ++ (bends t l.reverse).dropLast
theorem hull_map {t : α → α → α → Bool} {u : β → β → β → Bool} {g : α → β} (h : ∀ a b c, u (g a) (g b) (g c) = t a b c) (l : List α) : hull u (l.map g) = (hull t l).map g := by
  unfold hull
  rw [List.length_map]
  split
  · rfl
  · rw [bends_map h, ← List.map_reverse, bends_map h, List.map_append, List.map_dropLast, List.map_dropLast]
end gen
def gone (a b c : P) : Bool := decide (tt a b c ≤ 0)
/-! ### signs -/
def cr (u v : P) : Int := u.1 * v.2 - u.2 * v.1
def Up (u : P) : Prop := 0 < u.1 ∨ (u.1 = 0 ∧ 0 < u.2)
def mi (a b : P) : P := (a.1 - b.1, a.2 - b.2)
theorem up_of {a b : P} (h : lt a b) : Up (mi b a) := by
  unfold lt at h; unfold Up mi
  rcases h with h | ⟨h, k⟩
  · exact Or.inl (show 0 < b.1 - a.1 by omega)
  · exact Or.inr ⟨show b.1 - a.1 = 0 by omega, show 0 < b.2 - a.2 by omega⟩
theorem up_x {u : P} (h : Up u) : 0 ≤ u.1 := by rcases h with h | ⟨h, _⟩ <;> omega
theorem cr_id1 (u v w : P) : cr u w * v.1 = cr u v * w.1 + cr v w * u.1 := by
  unfold cr; grind
theorem cr_le {u v w : P} (hu : Up u) (hv : Up v) (hw : Up w) (h1 : cr u v ≤ 0) (h2 : cr v w ≤ 0) : cr u w ≤ 0 := by
  have xu := up_x hu
  have xw := up_x hw
  rcases hv with hv | ⟨hv, hy⟩
  · have e := cr_id1 u v w
    have a1 : cr u v * w.1 ≤ 0 := Int.mul_nonpos_of_nonpos_of_nonneg h1 xw
    have a2 : cr v w * u.1 ≤ 0 := Int.mul_nonpos_of_nonpos_of_nonneg h2 xu
    have e2 : cr u w * v.1 ≤ 0 := by omega
    by_cases g : cr u w ≤ 0
    · exact g
    · have := Int.mul_pos (show 0 < cr u w by omega) hv
      omega
  · have e : cr u v = u.1 * v.2 := by unfold cr; rw [hv]; grind
    have u0 : u.1 = 0 := by
      by_cases g : u.1 = 0
      · exact g
      · have := Int.mul_pos (show 0 < u.1 by omega) hy
        omega
    have uy : 0 < u.2 := by rcases hu with q | ⟨_, q⟩; omega; exact q
    have e2 : cr u w = -(u.2 * w.1) := by unfold cr; rw [u0]; grind
    have := Int.mul_nonneg (Int.le_of_lt uy) xw
    omega
theorem cr_pos {u v w : P} (hu : Up u) (hv : Up v) (hw : Up w) (h1 : 0 < cr u v) (h2 : 0 < cr v w) : 0 < cr u w := by
  have xu := up_x hu
  have xw := up_x hw
  rcases hv with hv | ⟨hv, hy⟩
  · have e := cr_id1 u v w
    have a1 : 0 ≤ cr u v * w.1 := Int.mul_nonneg (Int.le_of_lt h1) xw
    have a2 : 0 ≤ cr v w * u.1 := Int.mul_nonneg (Int.le_of_lt h2) xu
    have u0 : 0 < u.1 := by
      rcases hu with q | ⟨q, qy⟩
      · exact q
      · have e1 : cr u v = -(u.2 * v.1) := by unfold cr; rw [q]; grind
        have := Int.mul_pos qy hv
        omega
    have a3 : 0 < cr v w * u.1 := Int.mul_pos h2 u0
    by_cases g : 0 < cr u w
    · exact g
    · have : cr u w * v.1 ≤ 0 := Int.mul_nonpos_of_nonpos_of_nonneg (by omega) (Int.le_of_lt hv)
      omega
  · have e : cr v w = -(v.2 * w.1) := by unfold cr; rw [hv]; grind
    have := Int.mul_nonneg (Int.le_of_lt hy) xw
    omega
theorem lt_irrefl {a : P} : ¬ lt a a := by unfold lt; omega
theorem lt_trans {a b c : P} (h : lt a b) (k : lt b c) : lt a c := by unfold lt at *; omega
theorem lt_asymm {a b : P} (h : lt a b) : ¬ lt b a := by unfold lt at *; omega
theorem lt_tri (a b : P) : lt a b ∨ a = b ∨ lt b a := by
  unfold lt
  rcases a with ⟨a1, a2⟩
  rcases b with ⟨b1, b2⟩
  simp only [Prod.mk.injEq]
  omega
/-- q < b < c, a < b: beyond a convex bend at b -/
theorem bend_on {q a b c : P} (h1 : lt q a) (h2 : lt a b) (h3 : lt b c) (t1 : 0 < tt q a b) (t2 : 0 < tt a b c) : 0 < tt q b c := by
  have k := cr_pos (up_of h1) (up_of h2) (up_of h3) (by have e : cr (mi a q) (mi b a) = tt q a b := by unfold cr mi tt; grind
                                                        omega) (by have e : cr (mi b a) (mi c b) = tt a b c := by unfold cr mi tt; grind
                                                                   omega)
  have e : tt q b c = cr (mi a q) (mi c b) + tt a b c := by unfold cr mi tt; grind
  omega
theorem bend_in {q a b c : P} (h1 : lt a q) (h2 : lt q b) (h3 : lt b c) (t1 : 0 ≤ tt a b q) (t2 : 0 < tt a b c) : 0 < tt q b c := by
  by_cases g : 0 < tt q b c
  · exact g
  · have k := cr_le (up_of h1) (up_of h2) (up_of h3) (by have e : cr (mi q a) (mi b q) = - tt a b q := by unfold cr mi tt; grind
                                                         omega) (by have e : cr (mi b q) (mi c b) = tt q b c := by unfold cr mi tt; grind
                                                                    omega)
    have e : tt a b c = cr (mi q a) (mi c b) + tt q b c := by unfold cr mi tt; grind
    omega
theorem gone_low {a q b p : P} (h1 : lt a q) (h2 : lt q b) (h3 : lt b p) (t1 : 0 ≤ tt a b q) (t2 : tt a b p ≤ 0) : 0 ≤ tt a p q := by
  have e1 : cr (mi q a) (mi b q) = - tt a b q := by unfold cr mi tt; grind
  have e2 : tt a b p = cr (mi q a) (mi p b) + cr (mi b q) (mi p b) := by unfold cr mi tt; grind
  have e3 : tt a p q = - cr (mi q a) (mi b q) - cr (mi q a) (mi p b) := by unfold cr mi tt; grind
  by_cases g : cr (mi q a) (mi p b) ≤ 0
  · omega
  · have k := cr_le (up_of h1) (up_of h2) (up_of h3) (by omega) (by omega)
    omega
theorem gone_high {a q b p : P} (h1 : lt a b) (h2 : lt b q) (h3 : lt q p) (t1 : 0 ≤ tt b p q) (t2 : tt a b p ≤ 0) : 0 ≤ tt a p q := by
  have e1 : cr (mi q b) (mi p q) = - tt b p q := by unfold cr mi tt; grind
  have e2 : tt a b p = cr (mi b a) (mi q b) + cr (mi b a) (mi p q) := by unfold cr mi tt; grind
  have e3 : tt a p q = - cr (mi b a) (mi p q) - cr (mi q b) (mi p q) := by unfold cr mi tt; grind
  by_cases g : cr (mi b a) (mi p q) ≤ 0
  · omega
  · have k := cr_le (up_of h1) (up_of h2) (up_of h3) (by omega) (by omega)
    omega
/-! ### the lower chain, told by what it is -/
def Cvx : List P → Prop
  | c :: b :: a :: r => 0 < tt a b c ∧ Cvx (b :: a :: r)
  | _ => True
def Cov (L : List P) : List P → Prop
  | b :: a :: r => (∀ q ∈ L, lt a q → lt q b → 0 ≤ tt a b q) ∧ Cov L (a :: r)
  | _ => True
abbrev Desc (st : List P) : Prop := st.Pairwise fun b a => lt a b
abbrev Asc (l : List P) : Prop := l.Pairwise lt
structure Low (L st : List P) : Prop where
  mem : ∀ p ∈ st, p ∈ L
  top : st.head? = L.getLast?
  bot : st.getLast? = L.head?
  desc : Desc st
  cvx : Cvx st
  cov : Cov L st
theorem Cvx.tail {b : P} {r : List P} (h : Cvx (b :: r)) : Cvx r := by
  match r, h with
  | [], _ => trivial
  | [a], _ => trivial
  | a :: c :: r, h => exact h.2
theorem Cov.tail {L : List P} {b : P} {r : List P} (h : Cov L (b :: r)) : Cov L r := by
  match r, h with
  | [], _ => trivial
  | a :: r, h => exact h.2
theorem last_le {b z : P} : ∀ {r : List P}, Desc (b :: r) → (b :: r).getLast? = some z → z = b ∨ lt z b
  | [], _, h => Or.inl (Option.some.inj h).symm
  | a :: r, d, h => by
    rw [List.getLast?_cons_cons]
          at h
    have hab : lt a b := (List.pairwise_cons.mp d).1 a List.mem_cons_self
    rcases last_le (List.pairwise_cons.mp d).2 h with e | e
    · exact Or.inr (e ▸ hab)
    · exact Or.inr (lt_trans e hab)
/-- what is on or above the chain, before its last bend -/
theorem beyond {L : List P} {q z : P} (hq : q ∈ L) : ∀ {r : List P} {b c : P}, Desc (c :: b :: r) → Cvx (c :: b :: r) → Cov L (c :: b :: r) → (b :: r).getLast? = some z → (z = q ∨ lt z q) → lt q b → 0 < tt q b c
  | [], b, c, d, cv, co, hl, hz, hqb => by
    obtain rfl : b = z := Option.some.inj hl
    rcases hz with rfl | hz
    · exact (lt_irrefl hqb).elim
    · exact (lt_asymm hz hqb).elim
  | a :: r, b, c, d, cv, co, hl, hz, hqb => by
    have d2 := (List.pairwise_cons.mp d).2
    have hab : lt a b := (List.pairwise_cons.mp d2).1 a List.mem_cons_self
    have hbc : lt b c := (List.pairwise_cons.mp d).1 b List.mem_cons_self
    rw [List.getLast?_cons_cons] at hl
    rcases lt_tri a q with h | rfl | h
    · exact bend_in h hqb hbc (co.2.1 q hq h hqb) cv.1
    · exact cv.1
    · exact bend_on h hab hbc (beyond hq d2 cv.2 co.2 hl hz h) cv.1
theorem low_uniq' {L : List P} {z : P} : ∀ {s1 s2 : List P}, (∀ p ∈ s1, p ∈ L) → (∀ p ∈ s2, p ∈ L) → s1.head? = s2.head? → s1.getLast? = some z → s2.getLast? = some z → Desc s1 → Desc s2 → Cvx s1 → Cvx s2 → Cov L s1 → Cov L s2 → s1 = s2
  | [], [], _, _, _, _, _, _, _, _, _, _, _ => rfl
  | [], _ :: _, _, _, h, _, _, _, _, _, _, _, _ => nomatch h
  | _ :: _, [], _, _, h, _, _, _, _, _, _, _, _ => nomatch h
  | h1 :: t1, h2 :: t2, m1, m2, hh, l1, l2, d1, d2, c1, c2, o1, o2 => by
    obtain rfl : h1 = h2 := Option.some.inj hh
    cases t1 with
    | nil =>
      cases t2 with
      | nil => rfl
      | cons b r =>
        obtain rfl : h1 = z := Option.some.inj l1
        rw [List.getLast?_cons_cons] at l2
        have hb : lt b h1 := (List.pairwise_cons.mp d2).1 b List.mem_cons_self
        rcases last_le (List.pairwise_cons.mp d2).2 l2 with e | e
        · exact (lt_irrefl (e ▸ hb)).elim
        · exact (lt_asymm e hb).elim
    | cons a r =>
      cases t2 with
      | nil =>
        obtain rfl : h1 = z := Option.some.inj l2
        rw [List.getLast?_cons_cons] at l1
        have hb : lt a h1 := (List.pairwise_cons.mp d1).1 a List.mem_cons_self
        rcases last_le (List.pairwise_cons.mp d1).2 l1 with e | e
        · exact (lt_irrefl (e ▸ hb)).elim
        · exact (lt_asymm e hb).elim
      | cons b r2 =>
        rw [List.getLast?_cons_cons] at l1 l2
        have ha : lt a h1 := (List.pairwise_cons.mp d1).1 a List.mem_cons_self
        have hb : lt b h1 := (List.pairwise_cons.mp d2).1 b List.mem_cons_self
        have flip : ∀ x y w : P, tt x w y = - tt x y w := fun x y w => by unfold tt; grind
        have turn : ∀ x y w : P, tt x y w = tt y w x := fun x y w => by unfold tt; grind
        have ab : a = b := by
          rcases lt_tri a b with h | h | h
          · have k := beyond (m1 a (by simp)) d2 c2 o2 l2 (last_le (List.pairwise_cons.mp d1).2 l1) h
            have k2 := o1.1 b (m2 b (by simp)) h hb
            rw [flip] at k2
            omega
          · exact h
          · have k := beyond (m2 b (by simp)) d1 c1 o1 l1 (last_le (List.pairwise_cons.mp d2).2 l2) h
            have k2 := o2.1 a (m1 a (by simp)) h ha
            rw [flip] at k2
            omega
        subst ab
        rw [low_uniq' (fun p hp => m1 p (List.mem_cons_of_mem _ hp)) (fun p hp => m2 p (List.mem_cons_of_mem _ hp)) rfl l1 l2 (List.pairwise_cons.mp d1).2 (List.pairwise_cons.mp d2).2 c1.tail c2.tail o1.tail o2.tail]
theorem Low.uniq {L s1 s2 : List P} (h1 : Low L s1) (h2 : Low L s2) : s1 = s2 := by
  cases L with
  | nil =>
    have e1 := h1.bot
    have e2 := h2.bot
    rw [List.head?_nil] at e1 e2
    rw [List.getLast?_eq_none_iff.mp e1, List.getLast?_eq_none_iff.mp e2]
  | cons z l => exact low_uniq' h1.mem h2.mem (h1.top.trans h2.top.symm) h1.bot h2.bot h1.desc h2.desc h1.cvx h2.cvx h1.cov h2.cov
/-! ### the stack makes it -/
structure Pre (L st : List P) (p : P) : Prop where
  ne : st ≠ []
  mem : ∀ x ∈ st, x ∈ L
  desc : Desc st
  cvx : Cvx st
  cov : Cov L st
  over : ∀ b r, st = b :: r → ∀ q ∈ L, lt b q → 0 ≤ tt b p q
theorem popped {L : List P} {p : P} (hp : ∀ q ∈ L, lt q p) : ∀ {st : List P}, Pre L st p → Pre L (popw gone p st) p ∧ (popw gone p st).getLast? = st.getLast? ∧ ∀ b a r, popw gone p st = b :: a :: r → 0 < tt a b p
  | [], h => (h.ne rfl).elim
  | [a], h => ⟨h, rfl, fun b a r e => by cases e⟩
  | b :: a :: r, h => by
    show Pre L (if gone a b p then popw gone p (a :: r) else b :: a :: r) p ∧ _
    by_cases g : gone a b p
    · have e : popw gone p (b :: a :: r) = popw gone p (a :: r) := by
        show (if gone a b p then popw gone p (a :: r) else b :: a :: r) = _
        rw [if_pos g]
      rw [if_pos g, e]
      have g' : tt a b p ≤ 0 := of_decide_eq_true g
      have hab : lt a b := (List.pairwise_cons.mp h.desc).1 a List.mem_cons_self
      have hbL : b ∈ L := h.mem b List.mem_cons_self
      have hb : lt b p := hp b hbL
      have h2 : Pre L (a :: r) p := ⟨nofun, fun x hx => h.mem x (List.mem_cons_of_mem _ hx), (List.pairwise_cons.mp h.desc).2, h.cvx.tail, h.cov.tail, fun b' r' eq q hq hl => by
        cases eq
        rcases lt_tri q b with k | rfl | k
        · exact gone_low hl k hb (h.cov.1 q hq hl k) g'
        · have : tt a p q = - tt a q p := by unfold tt; grind
          omega
        · exact gone_high hab k (hp q hq) (h.over b _ rfl q hq k) g'⟩
      obtain ⟨k1, k2, k3⟩ := popped hp h2
      exact ⟨k1, k2.trans (List.getLast?_cons_cons).symm, k3⟩
    · have e : popw gone p (b :: a :: r) = b :: a :: r := by
        show (if gone a b p then popw gone p (a :: r) else b :: a :: r) = _
        rw [if_neg g]
      rw [if_neg g, e]
      refine ⟨h, rfl, fun b' a' r' eq => ?_⟩
      cases eq
      have : ¬ tt a b p ≤ 0 := fun z => g (decide_eq_true z)
      omega
theorem cov_more {L : List P} {p : P} : ∀ {st : List P}, (∀ x ∈ st, x ∈ L) → (∀ q ∈ L, lt q p) → Cov L st → Cov (L ++ [p]) st
  | [], _, _, _ => trivial
  | [_], _, _, _ => trivial
  | b :: a :: r, m, hp, h => by
    refine ⟨fun q hq l1 l2 => ?_, cov_more (fun x hx => m x (List.mem_cons_of_mem _ hx)) hp h.2⟩
    rcases List.mem_append.mp hq with k | k
    · exact h.1 q k l1 l2
    · obtain rfl := List.mem_singleton.mp k
      exact (lt_asymm (hp b (m b List.mem_cons_self)) l2).elim
theorem low_step {L st : List P} {p : P} (hL : Asc (L ++ [p])) (hne : L ≠ []) (h : Low L st) : Low (L ++ [p]) (step gone st p) := by
  have hp : ∀ q ∈ L, lt q p := fun q hq => (List.pairwise_append.mp hL).2.2 q hq p List.mem_cons_self
  have sne : st ≠ [] := by
    rintro rfl
    have := h.top
    rw [List.head?_nil] at this
    exact hne (List.getLast?_eq_none_iff.mp this.symm)
  have top : ∀ b r, st = b :: r → L.getLast? = some b := fun b r e => by rw [← h.top, e]; rfl
  have pre : Pre L st p := ⟨sne, h.mem, h.desc, h.cvx, h.cov, fun b r e q hq hl => by
    have hb := top b r e
    -- b is the last of L
    obtain ⟨l, rfl⟩ : ∃ l, L = l ++ [b] := by
      obtain ⟨l, e⟩ := List.getLast?_eq_some_iff.mp hb
      exact ⟨l, e⟩
    rcases List.mem_append.mp hq with k | k
    · have := (List.pairwise_append.mp (List.pairwise_append.mp hL).1).2.2 q k b List.mem_cons_self
      exact (lt_asymm this hl).elim
    · obtain rfl := List.mem_singleton.mp k
      exact (lt_irrefl hl).elim⟩
  obtain ⟨k1, k2, k3⟩ := popped hp pre
  unfold step
  generalize popw gone p st = s2 at k1 k2 k3
  cases s2 with
  | nil => exact (k1.ne rfl).elim
  | cons b r =>
    have mp : ∀ x ∈ b :: r, x ∈ L ++ [p] := fun x hx => List.mem_append_left _ (k1.mem x hx)
    refine ⟨fun x hx => ?_, ?_, ?_, ?_, ?_, ?_⟩
    · rcases List.mem_cons.mp hx with rfl | k
      · exact List.mem_append_right _ List.mem_cons_self
      · exact mp x k
    · simp
    · rw [List.getLast?_cons_cons, k2, h.bot]
      cases L with
      | nil => exact (hne rfl).elim
      | cons => rfl
    · exact List.pairwise_cons.mpr ⟨fun x hx => hp x (k1.mem x hx), k1.desc⟩
    · cases r with
      | nil => trivial
      | cons a r => exact ⟨k3 b a r rfl, k1.cvx⟩
    · refine ⟨fun q hq l1 l2 => ?_, cov_more k1.mem hp k1.cov⟩
      rcases List.mem_append.mp hq with k | k
      · exact k1.over b r rfl q k l1
      · obtain rfl := List.mem_singleton.mp k
        exact (lt_irrefl l2).elim
theorem low_run : ∀ (l L : List P) (st : List P), Asc (L ++ l) → L ≠ [] → Low L st → Low (L ++ l) (l.foldl (step gone) st)
  | [], L, st, _, _, h => by rw [List.append_nil]; exact h
  | p :: l, L, st, a, hne, h => by
    have a' : Asc ((L ++ [p]) ++ l) := by simpa using a
    have := low_run l (L ++ [p]) (step gone st p) a' (by simp) (low_step (List.pairwise_append.mp a').1 hne h)
    simpa using this
theorem low_stack {L : List P} (h : Asc L) : Low L (stack gone L) := by
  cases L with
  | nil => exact ⟨fun p hp => hp, rfl, rfl, List.Pairwise.nil, trivial, trivial⟩
  | cons p l =>
    have b : Low [p] [p] := ⟨fun x hx => hx, rfl, rfl, List.pairwise_singleton .., trivial, trivial⟩
    exact low_run l [p] [p] h (by simp) b
end Hull

namespace Hull
/-! ### the whole hull -/
def ng (p : P) : P := (-p.1, -p.2)
theorem ng_ng (p : P) : ng (ng p) = p := by unfold ng; simp
theorem lt_ng {a b : P} : lt (ng a) (ng b) ↔ lt b a := by unfold lt ng; simp only; omega
theorem tt_ng (a b c : P) : tt (ng a) (ng b) (ng c) = tt a b c := by unfold tt ng; grind
theorem gone_ng (a b c : P) : gone (ng a) (ng b) (ng c) = gone a b c := by unfold gone; rw [tt_ng]
/-- the points seen upside down -/
def down (L : List P) : List P := (L.map ng).reverse
theorem mem_down {L : List P} {p : P} : p ∈ down L ↔ ng p ∈ L := by
  unfold down
  rw [List.mem_reverse, List.mem_map]
  constructor
  · rintro ⟨a, h, rfl⟩; rw [ng_ng]; exact h
  · intro h; exact ⟨_, h, ng_ng p⟩
theorem asc_down {L : List P} (h : Asc L) : Asc (down L) := by
  show List.Pairwise lt (L.map ng).reverse
  rw [List.pairwise_reverse, List.pairwise_map]
  exact h.imp fun k => lt_ng.mpr k
theorem drop_end (a z : P) (l : List P) : (a :: (l ++ [z])).dropLast = a :: l := by
  rw [← List.cons_append, List.dropLast_concat]
theorem asc_nodup {l : List P} (h : Asc l) : l.Nodup := List.Pairwise.imp (R := lt) (S := fun a b => a ≠ b) (fun {a b} k e => by subst e; exact lt_irrefl k) h
theorem rev_nodup {l : List P} (h : l.Nodup) : l.reverse.Nodup := List.pairwise_reverse.mpr (List.Pairwise.imp (R := fun a b => a ≠ b) (S := fun a b => b ≠ a) (fun {a b} k => Ne.symm k) h)
theorem desc_nodup {l : List P} (h : Desc l) : l.Nodup := List.Pairwise.imp (R := fun b a => lt a b) (S := fun a b => a ≠ b) (fun {a b} k e => by subst e; exact lt_irrefl k) h
theorem bends_up (L : List P) : bends gone L.reverse = (bends gone (down L)).map ng := by
  have e : L.reverse = (down L).map ng := by
    unfold down
    rw [← List.map_reverse, List.map_reverse, ← List.map_reverse, List.map_map]
    have : ng ∘ ng = id := by funext p; exact ng_ng p
    rw [this, List.map_id]
  rw [e, bends_map gone_ng]
/-- both chains -/
theorem hull_mem {L : List P} (h2 : ¬ L.length < 2) (ha : Asc L) {p : P} : p ∈ hull gone L ↔ p ∈ stack gone L ∨ ng p ∈ stack gone (down L) := by
  have lo := low_stack ha
  have up := low_stack (asc_down ha)
  have bl : bends gone L = (stack gone L).reverse := rfl
  unfold hull
  rw [if_neg h2, bends_up]
  have bu : bends gone (down L) = (stack gone (down L)).reverse := rfl
  rw [bl, bu]
  -- both chains have two points or more
  obtain ⟨x, z, M, rfl⟩ : ∃ x z M, L = x :: (M ++ [z]) := by
    match L, h2 with
    | [], h => exact (h (by simp)).elim
    | [_], h => exact (h (by simp)).elim
    | a :: b :: r, _ => exact ⟨a, (b :: r).getLast (by simp), (b :: r).dropLast, by rw [List.dropLast_concat_getLast]⟩
  have hxz : lt x z := (List.pairwise_cons.mp ha).1 z (by simp)
  have lt1 : (stack gone (x :: (M ++ [z]))).head? = some z := by rw [lo.top]; exact List.getLast?_eq_some_iff.mpr ⟨x :: M, by simp⟩
  have lb1 : (stack gone (x :: (M ++ [z]))).getLast? = some x := lo.bot
  have ed : down (x :: (M ++ [z])) = ng z :: ((M.map ng).reverse ++ [ng x]) := by unfold down; simp
  have ut : (stack gone (down (x :: (M ++ [z])))).head? = some (ng x) := by rw [up.top, ed]; exact List.getLast?_eq_some_iff.mpr ⟨ng z :: (M.map ng).reverse, by simp⟩
  have ub : (stack gone (down (x :: (M ++ [z])))).getLast? = some (ng z) := by rw [up.bot, ed]; rfl
  generalize stack gone (x :: (M ++ [z])) = s1 at lt1 lb1
  generalize stack gone (down (x :: (M ++ [z]))) = s2 at ut ub
  have two : ∀ {s : List P} {u v : P}, s.head? = some u → s.getLast? = some v → u ≠ v → ∃ m, s = u :: (m ++ [v]) := by
    intro s u v h k hne
    match s, h with
    | a :: r, h =>
      obtain rfl : a = u := Option.some.inj h
      cases r with
      | nil => exact (hne (Option.some.inj k)).elim
      | cons b r =>
        rw [List.getLast?_cons_cons] at k
        obtain ⟨l, e⟩ := List.getLast?_eq_some_iff.mp k
        exact ⟨l, by rw [e]⟩
  have xz : x ≠ z := fun e => lt_irrefl (e ▸ hxz)
  obtain ⟨m1, rfl⟩ := two lt1 lb1 (Ne.symm xz)
  obtain ⟨m2, rfl⟩ := two ut ub (fun e => xz (by rw [← ng_ng x, ← ng_ng z, e]))
  have e1 : (z :: (m1 ++ [x])).reverse.dropLast = x :: m1.reverse := by simp [drop_end]
  have e2 : ((ng x :: (m2 ++ [ng z])).reverse.map ng).dropLast = z :: (m2.map ng).reverse := by simp [ng_ng, drop_end]
  rw [e1, e2]
  have nm : ∀ {l : List P} {p : P}, p ∈ l.map ng ↔ ng p ∈ l := fun {l p} => by
    rw [List.mem_map]
    constructor
    · rintro ⟨a, h, rfl⟩; rw [ng_ng]; exact h
    · intro h; exact ⟨_, h, ng_ng p⟩
  have xi : ∀ {p y : P}, ng p = ng y ↔ p = y := fun {p y} => ⟨fun e => by rw [← ng_ng p, ← ng_ng y, e], fun e => by rw [e]⟩
  simp only [List.mem_append, List.mem_cons, List.mem_reverse, nm, List.not_mem_nil, or_false, xi]
  constructor
  · rintro ((h | h) | (h | h))
    · exact Or.inl (Or.inr (Or.inr h))
    · exact Or.inl (Or.inr (Or.inl h))
    · exact Or.inl (Or.inl h)
    · exact Or.inr (Or.inr (Or.inl h))
  · rintro ((h | (h | h)) | (h | (h | h)))
    · exact Or.inr (Or.inl h)
    · exact Or.inl (Or.inr h)
    · exact Or.inl (Or.inl h)
    · exact Or.inl (Or.inl h)
    · exact Or.inr (Or.inr h)
    · exact Or.inr (Or.inl h)
theorem hull_sub {L : List P} (ha : Asc L) {p : P} (h : p ∈ hull gone L) : p ∈ L := by
  by_cases h2 : L.length < 2
  · unfold hull at h
    rw [if_pos h2] at h
    exact h
  · rcases (hull_mem h2 ha).mp h with k | k
    · exact (low_stack ha).mem p k
    · have := mem_down.mp ((low_stack (asc_down ha)).mem _ k)
      rwa [ng_ng] at this
theorem asc_ext : ∀ {A B : List P}, Asc A → Asc B → (∀ p, p ∈ A ↔ p ∈ B) → A = B
  | [], [], _, _, _ => rfl
  | [], b :: _, _, _, h => absurd ((h b).mpr List.mem_cons_self) (by simp)
  | a :: _, [], _, _, h => absurd ((h a).mp List.mem_cons_self) (by simp)
  | a :: A, b :: B, ha, hb, h => by
    have a1 := List.pairwise_cons.mp ha
    have b1 := List.pairwise_cons.mp hb
    have ab : a = b := by
      rcases List.mem_cons.mp ((h a).mp List.mem_cons_self) with e | e
      · exact e
      · rcases List.mem_cons.mp ((h b).mpr List.mem_cons_self) with e2 | e2
        · exact e2.symm
        · exact (lt_asymm (b1.1 a e) (a1.1 b e2)).elim
    subst ab
    rw [asc_ext a1.2 b1.2 fun p => ?_]
    have := h p
    constructor
    · intro k
      rcases List.mem_cons.mp (this.mp (List.mem_cons_of_mem _ k)) with rfl | q
      · exact (lt_irrefl (a1.1 _ k)).elim
      · exact q
    · intro k
      rcases List.mem_cons.mp (this.mpr (List.mem_cons_of_mem _ k)) with rfl | q
      · exact (lt_irrefl (b1.1 _ k)).elim
      · exact q
theorem asc_head {A : List P} {x : P} (ha : Asc A) (hx : x ∈ A) (hm : ∀ p ∈ A, x = p ∨ lt x p) : A.head? = some x := by
  cases A with
  | nil => cases hx
  | cons a r =>
    rcases List.mem_cons.mp hx with rfl | k
    · rfl
    · have l := (List.pairwise_cons.mp ha).1 x k
      rcases hm a List.mem_cons_self with rfl | e
      · rfl
      · exact (lt_asymm l e).elim
theorem asc_last {A : List P} {x : P} (ha : Asc A) (hx : x ∈ A) (hm : ∀ p ∈ A, p = x ∨ lt p x) : A.getLast? = some x := by
  rcases List.eq_nil_or_concat A with rfl | ⟨l, a, rfl⟩
  · cases hx
  · rw [List.concat_eq_append] at ha hx hm ⊢
    have a1 := List.pairwise_append.mp ha
    rw [List.getLast?_concat]
    rcases List.mem_append.mp hx with k | k
    · have l := a1.2.2 x k a List.mem_cons_self
      rcases hm a (by simp) with rfl | e
      · rfl
      · exact (lt_asymm l e).elim
    · rw [List.mem_singleton.mp k]
theorem low_of_sub {L M st : List P} (hL : Asc L) (hM : Asc M) (sub : ∀ p ∈ M, p ∈ L) (h : Low L st) (hs : ∀ p ∈ st, p ∈ M) : Low M st := by
  have cov : ∀ {s : List P}, Cov L s → Cov M s := by
    intro s
    induction s with
    | nil => exact fun _ => trivial
    | cons b r ih =>
      cases r with
      | nil => exact fun _ => trivial
      | cons a r => exact fun c => ⟨fun q hq => c.1 q (sub q hq), ih c.2⟩
  refine ⟨hs, ?_, ?_, h.desc, h.cvx, cov h.cov⟩
  · rw [h.top]
    cases e : L.getLast? with
    | none =>
      have : M = [] := by
        rw [List.getLast?_eq_none_iff] at e
        subst e
        exact List.eq_nil_iff_forall_not_mem.mpr fun p hp => by cases sub p hp
      rw [this]; rfl
    | some z =>
      have hz : z ∈ st := by
        have := h.top.trans e
        exact List.mem_of_mem_head? (by rw [this]; rfl)
      refine (asc_last hM (hs z hz) fun p hp => ?_).symm
      obtain ⟨l, rfl⟩ := List.getLast?_eq_some_iff.mp e
      rcases List.mem_append.mp (sub p hp) with k | k
      · exact Or.inr ((List.pairwise_append.mp hL).2.2 p k z List.mem_cons_self)
      · exact Or.inl (List.mem_singleton.mp k)
  · rw [h.bot]
    cases L with
    | nil =>
      have : M = [] := List.eq_nil_iff_forall_not_mem.mpr fun p hp => by cases sub p hp
      rw [this]
    | cons z l =>
      have hz : z ∈ st := List.mem_of_getLast? h.bot
      refine (asc_head hM (hs z hz) fun p hp => ?_).symm
      rcases List.mem_cons.mp (sub p hp) with k | k
      · exact Or.inl k.symm
      · exact Or.inr ((List.pairwise_cons.mp hL).1 p k)
theorem hull_two {L : List P} (ha : Asc L) : (hull gone L).length < 2 ↔ L.length < 2 := by
  by_cases h2 : L.length < 2
  · unfold hull
    rw [if_pos h2]
  · refine ⟨fun h => ?_, fun h => (h2 h).elim⟩
    have lo := low_stack ha
    match L, h2 with
    | [], h => exact (h (by simp)).elim
    | [_], h => exact (h (by simp)).elim
    | a :: b :: r, h2 =>
      exfalso
      have ma : a ∈ hull gone (a :: b :: r) := (hull_mem h2 ha).mpr (Or.inl (List.mem_of_getLast? lo.bot))
      obtain ⟨z, hz⟩ : ∃ z, (a :: b :: r).getLast? = some z := ⟨_, List.getLast?_eq_some_getLast (by simp)⟩
      have mz : z ∈ hull gone (a :: b :: r) := (hull_mem h2 ha).mpr (Or.inl (List.mem_of_mem_head? (by rw [lo.top, hz]; rfl)))
      have az : lt a z := by
        have : z ∈ b :: r := by
          rw [List.getLast?_cons_cons] at hz
          exact List.mem_of_getLast? hz
        exact (List.pairwise_cons.mp ha).1 z this
      match hull gone (a :: b :: r), h, ma, mz with
      | [], _, m, _ => cases m
      | [x], _, m1, m2 =>
        rw [List.mem_singleton] at m1 m2
        subst m1 m2
        exact lt_irrefl az
      | _ :: _ :: _, h, _, _ => exact absurd h (by simp)
/-- the hull of the corners -/
theorem hull_hull {L M : List P} (hL : Asc L) (hM : Asc M) (h : ∀ p, p ∈ M ↔ p ∈ hull gone L) : hull gone M = hull gone L := by
  by_cases h2 : L.length < 2
  · have e : hull gone L = L := by unfold hull; rw [if_pos h2]
    rw [e] at h ⊢
    rw [asc_ext hM hL h, e]
  · have lo := low_stack hL
    have up := low_stack (asc_down hL)
    have sub : ∀ p ∈ M, p ∈ L := fun p hp => hull_sub hL ((h p).mp hp)
    have l1 : stack gone M = stack gone L := (low_stack hM).uniq (low_of_sub hL hM sub lo fun p hp => (h p).mpr ((hull_mem h2 hL).mpr (Or.inl hp)))
    have l2 : stack gone (down M) = stack gone (down L) := (low_stack (asc_down hM)).uniq (low_of_sub (asc_down hL) (asc_down hM) (fun p hp => mem_down.mpr (sub _ (mem_down.mp hp))) up fun p hp => mem_down.mpr ((h _).mpr ((hull_mem h2 hL).mpr (Or.inr (by rw [ng_ng]; exact hp)))))
    have hm2 : ¬ M.length < 2 := by
      intro q
      have hn : (hull gone L).length < 2 := by
        match M, q with
        | [], _ =>
          have : hull gone L = [] := List.eq_nil_iff_forall_not_mem.mpr fun p hp => by cases (h p).mpr hp
          rw [this]; decide
        | [x], _ =>
          -- all members are x; the chain has its both ends
          exfalso
          match L, h2 with
          | [], k => exact k (by simp)
          | [_], k => exact k (by simp)
          | a :: b :: r, h2 =>
            have ma := (h a).mpr ((hull_mem h2 hL).mpr (Or.inl (List.mem_of_getLast? lo.bot)))
            obtain ⟨z, hz⟩ : ∃ z, (a :: b :: r).getLast? = some z := ⟨_, List.getLast?_eq_some_getLast (by simp)⟩
            have mz := (h z).mpr ((hull_mem h2 hL).mpr (Or.inl (List.mem_of_mem_head? (by rw [lo.top, hz]; rfl))))
            rw [List.mem_singleton] at ma mz
            have az : lt a z := by
              have : z ∈ b :: r := by
                rw [List.getLast?_cons_cons] at hz
                exact List.mem_of_getLast? hz
              exact (List.pairwise_cons.mp hL).1 z this
            rw [ma, mz] at az
            exact lt_irrefl az
        | _ :: _ :: _, k => exact absurd k (by simp)
      exact h2 ((hull_two hL).mp hn)
    unfold hull
    rw [if_neg hm2, if_neg h2, bends_up, bends_up]
    unfold bends
    rw [l1, l2]
/-! ### least and greatest heights are at corners -/
def ht (c s : Int) (p : P) : Int := c * p.1 + s * p.2
theorem low_ht {c s : Int} (hs : 0 ≤ s) {a q b : P} (h1 : lt a q) (h2 : lt q b) (t : 0 ≤ tt a b q) : ht c s a ≤ ht c s q ∨ ht c s b ≤ ht c s q := by
  by_cases g : ht c s a ≤ ht c s q
  · exact Or.inl g
  · by_cases g2 : ht c s b ≤ ht c s q
    · exact Or.inr g2
    · exfalso
      have u1 := up_of h1
      have u2 := up_of h2
      have ea : ht c s (mi q a) = ht c s q - ht c s a := by unfold ht mi; grind
      have eb : ht c s (mi b q) = ht c s b - ht c s q := by unfold ht mi; grind
      have ec : cr (mi q a) (mi b q) = - tt a b q := by unfold cr mi tt; grind
      generalize mi q a = u at u1 ea ec
      generalize mi b q = v at u2 eb ec
      have id : ht c s v * u.1 = ht c s u * v.1 + s * cr u v := by unfold ht cr; grind
      have a1 : ht c s u * v.1 ≤ 0 := Int.mul_nonpos_of_nonpos_of_nonneg (by omega) (up_x u2)
      have a2 : s * cr u v ≤ 0 := Int.mul_nonpos_of_nonneg_of_nonpos hs (by omega)
      have a3 : 0 ≤ ht c s v * u.1 := Int.mul_nonneg (by omega) (up_x u1)
      have z1 : u.1 = 0 := by
        by_cases g : u.1 = 0
        · exact g
        · have := Int.mul_pos (show 0 < ht c s v by omega) (show 0 < u.1 by have := up_x u1; omega)
          omega
      have uy : 0 < u.2 := by rcases u1 with q | ⟨_, q⟩; omega; exact q
      have : ht c s u = s * u.2 := by unfold ht; rw [z1]; grind
      have := Int.mul_nonneg hs (Int.le_of_lt uy)
      omega
theorem low_min {c s : Int} (hs : 0 ≤ s) {L : List P} {q z : P} (hq : q ∈ L) : ∀ {r : List P} {t : P}, Desc (t :: r) → Cov L (t :: r) → (t :: r).getLast? = some z → (z = q ∨ lt z q) → (q = t ∨ lt q t) → ∃ d ∈ t :: r, ht c s d ≤ ht c s q
  | [], t, d, co, hl, hz, ht => by
    obtain rfl : t = z := Option.some.inj hl
    refine ⟨t, by simp, ?_⟩
    rcases hz with rfl | hz
    · exact Int.le_refl _
    · rcases ht with rfl | k
      · exact Int.le_refl _
      · exact (lt_asymm hz k).elim
  | a :: r, t, d, co, hl, hz, hk => by
    rw [List.getLast?_cons_cons] at hl
    rcases hk with rfl | hk
    · exact ⟨q, by simp, Int.le_refl _⟩
    · rcases lt_tri a q with h | rfl | h
      · rcases low_ht (c := c) hs h hk (co.1 q hq h hk) with g | g
        · exact ⟨a, by simp, g⟩
        · exact ⟨t, by simp, g⟩
      · exact ⟨a, by simp, Int.le_refl _⟩
      · obtain ⟨e, m, k⟩ := low_min (c := c) hs hq (List.pairwise_cons.mp d).2 co.2 hl hz (Or.inr h)
        exact ⟨e, List.mem_cons_of_mem _ m, k⟩
theorem Low.min {c s : Int} (hs : 0 ≤ s) {L st : List P} (ha : Asc L) (h : Low L st) {q : P} (hq : q ∈ L) : ∃ d ∈ st, ht c s d ≤ ht c s q := by
  cases L with
  | nil => cases hq
  | cons z l =>
    cases st with
    | nil => exact absurd h.bot (by simp)
    | cons t r =>
      refine low_min hs hq h.desc h.cov h.bot ?_ ?_
      · rcases List.mem_cons.mp hq with k | k
        · exact Or.inl k.symm
        · exact Or.inr ((List.pairwise_cons.mp ha).1 q k)
      · obtain ⟨l', e⟩ := List.getLast?_eq_some_iff.mp (show (z :: l).getLast? = some t from h.top.symm)
        rw [e] at hq ha
        rcases List.mem_append.mp hq with k | k
        · exact Or.inr ((List.pairwise_append.mp ha).2.2 q k t List.mem_cons_self)
        · exact Or.inl (List.mem_singleton.mp k)
theorem hull_min (c s : Int) {L : List P} (ha : Asc L) {q : P} (hq : q ∈ L) : ∃ d ∈ hull gone L, ht c s d ≤ ht c s q := by
  by_cases h2 : L.length < 2
  · refine ⟨q, ?_, Int.le_refl _⟩
    unfold hull
    rw [if_pos h2]
    exact hq
  · by_cases hs : 0 ≤ s
    · obtain ⟨d, m, k⟩ := (low_stack ha).min (c := c) hs ha hq
      exact ⟨d, (hull_mem h2 ha).mpr (Or.inl m), k⟩
    · obtain ⟨d, m, k⟩ := (low_stack (asc_down ha)).min (c := -c) (s := -s) (by omega) (asc_down ha) (q := ng q) (mem_down.mpr (by rw [ng_ng]; exact hq))
      refine ⟨ng d, (hull_mem h2 ha).mpr (Or.inr (by rw [ng_ng]; exact m)), ?_⟩
      have e1 : ht (-c) (-s) d = ht c s (ng d) := by unfold ht ng; grind
      have e2 : ht (-c) (-s) (ng q) = ht c s q := by unfold ht ng; grind
      omega
/-! ### how many corners -/
theorem chain_in {z t : P} : ∀ {r : List P}, Desc (t :: r) → Cvx (t :: r) → (t :: r).getLast? = some z → ∀ p ∈ r, p ≠ z → tt z t p < 0
  | [], _, _, _, p, hp, _ => by cases hp
  | b :: r, d, cv, hl, p, hp, hne => by
    rw [List.getLast?_cons_cons] at hl
    have d2 := (List.pairwise_cons.mp d).2
    have hbt : lt b t := (List.pairwise_cons.mp d).1 b List.mem_cons_self
    -- z < p <= b < t
    have key : ∀ {r : List P} {b : P}, Desc (b :: r) → Cvx (b :: r) → (b :: r).getLast? = some z → ∀ {t : P}, lt b t → (∀ a r', r = a :: r' → 0 < tt a b t) → z ≠ b → 0 < tt z b t := by
      intro r
      induction r with
      | nil => intro b _ _ hl t _ _ hne; exact (hne (Option.some.inj hl).symm).elim
      | cons a r ih =>
        intro b d cv hl t hbt hv hne
        rw [List.getLast?_cons_cons] at hl
        have hab : lt a b := (List.pairwise_cons.mp d).1 a List.mem_cons_self
        by_cases e : z = a
        · rw [e]; exact hv a r rfl
        · have hz : lt z a := by
            rcases last_le (List.pairwise_cons.mp d).2 hl with k | k
            · exact (e k).elim
            · exact k
          exact bend_on hz hab hbt (ih (List.pairwise_cons.mp d).2 cv.tail hl hab (fun c r' er => by subst er; exact cv.1) e) (hv a r rfl)
    have flip : ∀ x y w : P, tt x w y = - tt x y w := fun x y w => by unfold tt; grind
    rcases List.mem_cons.mp
          hp with rfl | hp
    · have := key d2 cv.tail hl hbt (fun a r' e => by subst e; exact cv.1) (Ne.symm hne)
      rw [flip]
      omega
    · -- p further down: below z b, and so below z t
      have ih := chain_in d2 cv.tail hl p hp hne
      have hpb : lt p b := (List.pairwise_cons.mp d2).1 p hp
      have hzp : lt z p := by
        have : ∀ {r : List P} {b : P}, Desc (b :: r) → (b :: r).getLast? = some z → ∀ p ∈ b :: r, p = z ∨ lt z p := by
          intro r
          induction r with
          | nil => intro b _ hl p hp; rw [List.mem_singleton.mp hp]; exact Or.inl (Option.some.inj hl)
          | cons a r ih =>
            intro b d hl p hp
            have h0 := last_le d hl
            rw [List.getLast?_cons_cons] at hl
            rcases List.mem_cons.mp
                  hp with rfl | hp
            · rcases h0 with e | e
              · exact Or.inl e.symm
              · exact Or.inr e
            · exact ih (List.pairwise_cons.mp d).2 hl p hp
        rcases this d2 hl p (List.mem_cons_of_mem _ hp) with e | e
        · exact (hne e).elim
        · exact e
      have zb : z ≠ b := fun e => lt_asymm hzp (e ▸ hpb)
      have k := key d2 cv.tail hl hbt (fun a r' e => by subst e; exact cv.1) zb
      -- z < p < b < t, tt z b p < 0, 0 < tt z b t
      have h1 : 0 < tt z p b := by rw [flip]; omega
      by_cases g : tt z t p < 0
      · exact g
      · have g2 : tt z p t ≤ 0 := by rw [flip]; omega
        -- z p t to the right, z b t to the left: p above z t, b below; but p is below z b
        exfalso
        have e1 : cr (mi p z) (mi b z) = tt z p b := by unfold cr mi tt; grind
        have e2 : cr (mi b z) (mi t z) = tt z b t := by unfold cr mi tt; grind
        have e3 : cr (mi p z) (mi t z) = tt z p t := by unfold cr mi tt; grind
        have := cr_pos (up_of hzp) (up_of (lt_trans hzp hpb)) (up_of (lt_trans hzp (lt_trans hpb hbt))) (by omega : 0 < cr (mi p z) (mi b z)) (by omega : 0 < cr (mi b z) (mi t z))
        omega
theorem nodup_len {A B : List P} (hA : A.Nodup) (h : ∀ p ∈ A, p ∈ B) : A.length ≤ B.length := by
  induction A generalizing B with
  | nil => exact Nat.zero_le _
  | cons a A ih =>
    have ha := h a List.mem_cons_self
    have hn := List.nodup_cons.mp hA
    have := ih (B := B.erase a) hn.2 fun p hp => (List.mem_erase_of_ne (fun (e : p = a) => hn.1 (by rw [← e]; exact hp))).mpr (h p (List.mem_cons_of_mem _ hp))
    rw [List.length_erase_of_mem ha] at this
    have : 0 < B.length := List.length_pos_of_mem ha
    simp only [List.length_cons]
    omega
theorem hull_nodup {L : List P} (ha : Asc L) : (hull gone L).Nodup := by
  by_cases h2 : L.length < 2
  · unfold hull
    rw [if_pos h2]
    exact asc_nodup ha
  · have lo := low_stack ha
    have up := low_stack (asc_down ha)
    obtain ⟨x, z, M, rfl⟩ : ∃ x z M, L = x :: (M ++ [z]) := by
      match L, h2 with
      | [], h => exact (h (by simp)).elim
      | [_], h => exact (h (by simp)).elim
      | a :: b :: r, _ => exact ⟨a, (b :: r).getLast (by simp), (b :: r).dropLast, by rw [List.dropLast_concat_getLast]⟩
    have hxz : lt x z := (List.pairwise_cons.mp ha).1 z (by simp)
    have xz : x ≠ z := fun e => lt_irrefl (e ▸ hxz)
    have lt1 : (stack gone (x :: (M ++ [z]))).head? = some z := by rw [lo.top]; exact List.getLast?_eq_some_iff.mpr ⟨x :: M, by simp⟩
    have lb1 : (stack gone (x :: (M ++ [z]))).getLast? = some x := lo.bot
    have ed : down (x :: (M ++ [z])) = ng z :: ((M.map ng).reverse ++ [ng x]) := by unfold down; simp
    have ut : (stack gone (down (x :: (M ++ [z])))).head? = some (ng x) := by rw [up.top, ed]; exact List.getLast?_eq_some_iff.mpr ⟨ng z :: (M.map ng).reverse, by simp⟩
    have ub : (stack gone (down (x :: (M ++ [z])))).getLast? = some (ng z) := by rw [up.bot, ed]; rfl
    unfold hull
    rw [if_neg h2, bends_up]
    show (((stack gone (x :: (M ++ [z]))).reverse).dropLast ++ (((stack gone (down (x :: (M ++ [z])))).reverse).map ng).dropLast).Nodup
    have dl := lo.desc
    have du := up.desc
    have cl := lo.cvx
    have cu := up.cvx
    generalize stack gone (x :: (M ++ [z])) = s1 at lt1 lb1 dl cl
    generalize stack gone (down (x :: (M ++ [z]))) = s2 at ut ub du cu
    have two : ∀ {s : List P} {u v : P}, s.head? = some u → s.getLast? = some v → u ≠ v → ∃ m, s = u :: (m ++ [v]) := by
      intro s u v h k hne
      match s, h with
      | a :: r, h =>
        obtain rfl : a = u := Option.some.inj h
        cases r with
        | nil => exact (hne (Option.some.inj k)).elim
        | cons b r =>
          rw [List.getLast?_cons_cons] at k
          obtain ⟨l, e⟩ := List.getLast?_eq_some_iff.mp k
          exact ⟨l, by rw [e]⟩
    obtain ⟨m1, rfl⟩ := two lt1 lb1 (Ne.symm xz)
    obtain ⟨m2, rfl⟩ := two ut ub (fun e => xz (by rw [← ng_ng x, ← ng_ng z, e]))
    have e1 : (z :: (m1 ++ [x])).reverse.dropLast = x :: m1.reverse := by simp [drop_end]
    have e2 : ((ng x :: (m2 ++ [ng z])).reverse.map ng).dropLast = z :: (m2.map ng).reverse := by simp [ng_ng, drop_end]
    rw [e1, e2]
    have xi : ∀ {p y : P}, ng p = ng y → p = y := fun {p y} e => by rw [← ng_ng p, ← ng_ng y, e]
    have nd1 : (z :: (m1 ++ [x])).Nodup := desc_nodup dl
    have nd2 : (ng x :: (m2 ++ [ng z])).Nodup := desc_nodup du
    have n1 : (x :: m1.reverse).Nodup := by
      have := (List.nodup_cons.mp nd1).2
      have := rev_nodup this
      simpa using this
    have n2 : (z :: (m2.map ng).reverse).Nodup := by
      have := (List.nodup_cons.mp nd2).2
      have h3 := rev_nodup this
      have h4 : ((m2 ++ [ng z]).reverse.map ng).Nodup := by
        refine List.pairwise_map.mpr (h3.imp fun {a b} k e => k (xi e))
      simpa [ng_ng] using h4
    have lowin := chain_in dl cl lb1
    have upin := chain_in du cu ub
    have mi1 : ∀ p ∈ m1, tt x z p < 0 := fun p hp => lowin p (by simp [hp]) (by rintro rfl; have := (List.nodup_cons.mp nd1).2; exact (List.nodup_append.mp this).2.2 _ hp _ (by simp) rfl)
    have mi2 : ∀ p ∈ m2, tt (ng z) (ng x) p < 0 := fun p hp => upin p (by simp [hp]) (by rintro rfl; have := (List.nodup_cons.mp nd2).2; exact (List.nodup_append.mp this).2.2 _ hp _ (by simp) rfl)
    refine List.nodup_append.mpr ⟨n1, n2, ?_⟩
    intro p hp q hq e
    subst e
    have zero : tt x z x = 0 := by unfold tt; grind
    have zero2 : tt x z z = 0 := by unfold tt; grind
    have hq' : p = z ∨ 0 < tt x z p := by
      rcases List.mem_cons.mp hq with k | k
      · exact Or.inl k
      · right
        rw [List.mem_reverse, List.mem_map] at k
        obtain ⟨a, ha', rfl⟩ := k
        have := mi2 a ha'
        have e : tt (ng z) (ng x) a = - tt x z (ng a) := by unfold tt ng; grind
        omega
    have hp' : p = x ∨ tt x z p < 0 := by
      rcases List.mem_cons.mp hp with k | k
      · exact Or.inl k
      · exact Or.inr (mi1 p (List.mem_reverse.mp k))
    rcases hp' with rfl | h1
    · rcases hq' with h | h
      · exact xz h
      · omega
    · rcases hq' with rfl | h
      · omega
      · omega
theorem hull_len {L : List P} (ha : Asc L) : (hull gone L).length ≤ L.length := nodup_len (hull_nodup ha) fun p hp => hull_sub ha hp
end Hull

namespace Hull
/-! ### the points in their order, each once -/
def ins (p : P) : List P → List P
  | [] => [p]
  | a :: r => if lt p a then p :: a :: r else if p = a then a :: r else a :: ins p r
theorem ins_mem {p q : P} : ∀ {l : List P}, q ∈ ins p l ↔ q = p ∨ q ∈ l
  | [] => by simp [ins]
  | a :: r => by
    unfold ins
    split
    · simp
    · split
      · rename_i e
        subst e
        simp
      · simp only [List.mem_cons, ins_mem (l := r)]
        constructor
        · rintro (h | h | h)
          · exact Or.inr (Or.inl h)
          · exact Or.inl h
          · exact Or.inr (Or.inr h)
        · rintro (h | h | h)
          · exact Or.inr (Or.inl h)
          · exact Or.inl h
          · exact Or.inr (Or.inr h)
theorem ins_asc {p : P} : ∀ {l : List P}, Asc l → Asc (ins p l)
  | [], _ => List.pairwise_singleton ..
  | a :: r, h => by
    have h1 := List.pairwise_cons.mp h
    unfold ins
    split
    · rename_i c
      exact List.pairwise_cons.mpr ⟨fun x hx => by
        rcases List.mem_cons.mp hx with rfl | k
        · exact c
        · exact lt_trans c (h1.1 x k), h⟩
    · split
      · exact h
      · rename_i c e
        refine List.pairwise_cons.mpr ⟨fun x hx => ?_, ins_asc h1.2⟩
        rcases ins_mem.mp hx with rfl | k
        · rcases lt_tri a x with k | k | k
          · exact k
          · exact (e k.symm).elim
          · exact (c k).elim
        · exact h1.1 x k
def ascOf : List P → List P
  | [] => []
  | p :: l => ins p (ascOf l)
theorem ascOf_mem {q : P} : ∀ {l : List P}, q ∈ ascOf l ↔ q ∈ l
  | [] => Iff.rfl
  | p :: l => by
    show q ∈ ins p (ascOf l) ↔ _
    rw [ins_mem, ascOf_mem, List.mem_cons]
theorem ascOf_asc : ∀ (l : List P), Asc (ascOf l)
  | [] => List.Pairwise.nil
  | p :: l => ins_asc (ascOf_asc l)
theorem ascOf_eq {A l : List P} (h : Asc A) (m : ∀ p, p ∈ A ↔ p ∈ l) : ascOf l = A := asc_ext (ascOf_asc l) h fun p => ascOf_mem.trans (m p).symm
theorem ascOf_len : ∀ (l : List P), (ascOf l).length ≤ l.length := fun l => nodup_len (asc_nodup (ascOf_asc l)) fun p hp => ascOf_mem.mp hp
/-- what is left of a row in order if neighbours that are alike are told once -/
def once : Option P → List P → List P
  | _, [] => []
  | o, a :: r => if o = some a then once (some a) r else a :: once (some a) r
theorem once_asc : ∀ {l : List P} {o : Option P}, l.Pairwise (fun x y => ¬ lt y x) → (∀ p, o = some p → ∀ x ∈ l, ¬ lt x p) → Asc (once o l) ∧ (∀ p, o = some p → ∀ x ∈ once o l, lt p x) ∧ ∀ q, (q ∈ once o l ∨ o = some q) ↔ (q ∈ l ∨ o = some q)
  | [], o, _, _ => ⟨List.Pairwise.nil, fun _ _ _ h => (by cases h), fun q => Iff.rfl⟩
  | a :: r, o, h, ho => by
    have h1 := List.pairwise_cons.mp h
    obtain ⟨i1, i2, i3⟩ := once_asc (l := r) (o := some a) h1.2 (fun p e x hx => by cases e; exact h1.1 x hx)
    unfold once
    split
    · rename_i e
      refine ⟨i1, fun p hp => by rw [e] at hp; cases hp; exact i2 a rfl, fun q => ?_⟩
      have := i3 q
      rw [e]
      simp only [List.mem_cons] at this ⊢
      constructor
      · intro k
        rcases this.mp k with k | k
        · exact Or.inl (Or.inr k)
        · exact Or.inr k
      · rintro ((k | k) | k)
        · exact Or.inr (by rw [k])
        · exact this.mpr (Or.inl k)
        · exact Or.inr k
    · rename_i e
      refine ⟨List.pairwise_cons.mpr ⟨fun x hx => i2 a rfl x hx, i1⟩, fun p hp x hx => ?_, fun q => ?_⟩
      · have pa : lt p a := by
          rcases lt_tri p a with k | k | k
          · exact k
          · exact (e (by rw [hp, k])).elim
          · exact (ho p hp a List.mem_cons_self k).elim
        rcases List.mem_cons.mp hx with rfl | k
        · exact pa
        · exact lt_trans pa (i2 a rfl x k)
      · have := i3 q
        simp only [List.mem_cons] at this ⊢
        constructor
        · rintro ((k | k) | k)
          · exact Or.inl (Or.inl k)
          · rcases this.mp (Or.inl k) with k | k
            · exact Or.inl (Or.inr k)
            · cases k; exact Or.inl (Or.inl rfl)
          · exact Or.inr k
        · rintro ((k | k) | k)
          · exact Or.inl (Or.inl k)
          · rcases this.mpr (Or.inl k) with k | k
            · exact Or.inl (Or.inr k)
            · cases k; exact Or.inl (Or.inl rfl)
          · exact Or.inr k
theorem once_is {l : List P} (h : l.Pairwise (fun x y => ¬ lt y x)) : once none l = ascOf l := by
  obtain ⟨i1, _, i3⟩ := once_asc (o := none) h (fun p e => nomatch e)
  refine (ascOf_eq i1 fun p => ?_).symm
  have := i3 p
  simpa using this
/-! ### points times a number above 0 -/
def sc (k : Int) (p : P) : P := (k * p.1, k * p.2)
theorem sc_lt {k : Int} (hk : 0 < k) {a b : P} : lt (sc k a) (sc k b) ↔ lt a b := by
  unfold lt sc
  simp only
  have h1 : ∀ x y : Int, k * x < k * y ↔ x < y := fun x y => Int.mul_lt_mul_left hk
  have h2 : ∀ x y : Int, k * x = k * y ↔ x = y := fun x y => ⟨fun e => Int.eq_of_mul_eq_mul_left (by omega) e, fun e => by rw [e]⟩
  rw [h1, h1, h2]
theorem sc_gone {k : Int} (hk : 0 < k) (a b c : P) : gone (sc k a) (sc k b) (sc k c) = gone a b c := by
  unfold gone
  have e : tt (sc k a) (sc k b) (sc k c) = k * k * tt a b c := by unfold tt sc; grind
  rw [e]
  have kk : 0 < k * k := Int.mul_pos hk hk
  refine decide_eq_decide.mpr ⟨fun h => ?_, fun h => Int.mul_nonpos_of_nonneg_of_nonpos (Int.le_of_lt kk) h⟩
  by_cases g : tt a b c ≤ 0
  · exact g
  · have := Int.mul_pos kk (show 0 < tt a b c by omega)
    omega
theorem sc_inj {k : Int} (hk : 0 < k) {a b : P} (h : sc k a = sc k b) : a = b := by
  unfold sc at h
  have h1 := congrArg Prod.fst h
  have h2 := congrArg Prod.snd h
  simp only at h1 h2
  exact Prod.ext (Int.eq_of_mul_eq_mul_left (by omega) h1) (Int.eq_of_mul_eq_mul_left (by omega) h2)
theorem sc_asc {k : Int} (hk : 0 < k) {l : List P} (h : Asc l) : Asc (l.map (sc k)) := by
  show List.Pairwise lt (l.map (sc k))
  rw [List.pairwise_map]
  exact List.Pairwise.imp (R := lt) (fun q => (sc_lt hk).mpr q) h
theorem sc_ascOf {k : Int} (hk : 0 < k) (l : List P) : ascOf (l.map (sc k)) = (ascOf l).map (sc k) := by
  refine ascOf_eq (sc_asc hk (ascOf_asc l)) fun p => ?_
  rw [List.mem_map, List.mem_map]
  constructor
  · rintro ⟨a, h, e⟩; exact ⟨a, ascOf_mem.mp h, e⟩
  · rintro ⟨a, h, e⟩; exact ⟨a, ascOf_mem.mpr h, e⟩
theorem sc_hull {k : Int} (hk : 0 < k) (l : List P) : hull gone (ascOf (l.map (sc k))) = (hull gone (ascOf l)).map (sc k) := by
  rw [sc_ascOf hk, hull_map (sc_gone hk)]
/-- the hull of points, in whatever order -/
def hl (l : List P) : List P := hull gone (ascOf l)
theorem hl_hl (l : List P) : hl (hl l) = hl l := hull_hull (ascOf_asc l) (ascOf_asc _) fun p => ascOf_mem
theorem hl_len (l : List P) : (hl l).length ≤ l.length := Nat.le_trans (hull_len (ascOf_asc l)) (ascOf_len l)
theorem hl_sub {l : List P} {p : P} (h : p ∈ hl l) : p ∈ l := ascOf_mem.mp (hull_sub (ascOf_asc l) h)
theorem hl_min (c s : Int) {l : List P} {q : P} (h : q ∈ l) : ∃ d ∈ hl l, ht c s d ≤ ht c s q := hull_min c s (ascOf_asc l) (ascOf_mem.mpr h)
/-! ### the corners go round -/
/-- from the first corner all others go counterclockwise -/
theorem low_fan {z t : P} : ∀ {r : List P}, Desc (t :: r) → Cvx (t :: r) → (t :: r).getLast? = some z → ∀ (A B : List P) (b a : P), t :: r = A ++ b :: a :: B → z ≠ a → 0 < tt z a b := by
  intro r d cv hl A B b a e hne
  have d' : Desc (b :: a :: B) := by rw [e] at d; exact (List.pairwise_append.mp d).2.1
  have hl' : (a :: B).getLast? = some z := by
    rw [e, List.getLast?_append] at hl
    rw [List.getLast?_cons_cons] at hl
    cases h : (a :: B).getLast? with
    | none => rw [List.getLast?_eq_none_iff] at h; cases h
    | some y => rw [h] at hl; exact hl
  have cv' : Cvx (b :: a :: B) := by
    have : ∀ {A X : List P}, Cvx (A ++ X) → Cvx X := by
      intro A
      induction A with
      | nil => exact fun h => h
      | cons x A ih => exact fun h => ih h.tail
    rw [e] at cv
    exact this cv
  have hab : lt a b := (List.pairwise_cons.mp d').1 a List.mem_cons_self
  -- z < a < b
  cases B with
  | nil => exact (hne (Option.some.inj hl').symm).elim
  | cons a' B =>
    have ha' : lt a' a := (List.pairwise_cons.mp (List.pairwise_cons.mp d').2).1 a' List.mem_cons_self
    by_cases h : z = a'
    · rw [h]; exact cv'.1
    · have := chain_in (List.pairwise_cons.mp d').2 cv'.tail hl' a' List.mem_cons_self (fun q => h q.symm)
      have k : 0 < tt z a' a := by
        have : tt z a a' = - tt z a' a := by unfold tt; grind
        omega
      have hz : lt z a' := by
        rw [List.getLast?_cons_cons] at hl'
        rcases last_le (List.pairwise_cons.mp (List.pairwise_cons.mp d').2).2 hl' with q | q
        · exact (h q).elim
        · exact q
      exact bend_on hz ha' hab k cv'.1
/-- seen from the last point of the lower chain -/
theorem low_fan2 {t : P} : ∀ {r : List P}, Desc (t :: r) → Cvx (t :: r) → ∀ (A B : List P) (b a : P), r = A ++ b :: a :: B → 0 < tt a b t
  | [], _, _, A, B, b, a, e => by
    have := congrArg List.length e
    simp at this
  | c :: r, d, cv, A, B, b, a, e => by
    cases A with
    | nil =>
      cases e
      exact cv.1
    | cons x A =>
      have e1 : c = x := (List.cons.inj e).1
      have e2 : r = A ++ b :: a :: B := (List.cons.inj e).2
      subst e1
      have d2 := (List.pairwise_cons.mp d).2
      have k := low_fan2 d2 cv.tail A B b a e2
      have hct : lt c t := (List.pairwise_cons.mp d).1 c List.mem_cons_self
      have hb : b ∈ r := by rw [e2]; simp
      have ha : a ∈ r := by rw [e2]; simp
      have hbc : lt b c := (List.pairwise_cons.mp d2).1 b hb
      have hac : lt a c := (List.pairwise_cons.mp d2).1 a ha
      have hab : lt a b := by
        have := (List.pairwise_cons.mp d2).2
        rw [e2] at this
        exact (List.pairwise_cons.mp (List.pairwise_append.mp this).2.1).1 a List.mem_cons_self
      -- b c t bends, a b c bends
      have kb : 0 < tt b c t := by
        -- c's neighbour below is at or above b
        cases r with
        | nil => cases hb
        | cons y r =>
          rcases List.mem_cons.mp hb with rfl | hb2
          · exact cv.1
          · have hy : lt b y := (List.pairwise_cons.mp (List.pairwise_cons.mp d2).2).1 b hb2
            have hyc : lt y c := (List.pairwise_cons.mp d2).1 y List.mem_cons_self
            have := key2 d2 cv.tail b hb2
            exact bend_on hy hyc hct this cv.1
      have u1 := up_of hab
      have u2 := up_of hbc
      have u3 := up_of hct
      have e1' : cr (mi b a) (mi c b) = tt a b c := by unfold cr mi tt; grind
      have e2' : cr (mi c b) (mi t c) = tt b c t := by unfold cr mi tt; grind
      have e3 : tt a b t = tt a b c + cr (mi b a) (mi t c) := by unfold cr mi tt; grind
      have := cr_pos u1 u2 u3 (by omega) (by omega)
      omega
where
  /-- all below the second bend to the right of it -/
  key2 {c y : P} {r : List P} (d : Desc (c :: y :: r)) (cv : Cvx (c :: y :: r)) : ∀ p ∈ r, 0 < tt p y c := by
    intro p hp
    have hyc : lt y c := (List.pairwise_cons.mp d).1 y List.mem_cons_self
    have d2 := (List.pairwise_cons.mp d).2
    induction r generalizing c y with
    | nil => cases hp
    | cons x r ih =>
      rcases List.mem_cons.mp hp with rfl | h
      · exact cv.1
      · have hxy : lt x y := (List.pairwise_cons.mp d2).1 x List.mem_cons_self
        have := ih d2 cv.tail h hxy (List.pairwise_cons.mp d2).2
        have hpx : lt p x := (List.pairwise_cons.mp (List.pairwise_cons.mp d2).2).1 p h
        exact bend_on hpx hxy hyc this cv.1
end Hull

namespace Hull
theorem hull_form {L : List P} (h2 : ¬ L.length < 2) (ha : Asc L) : ∃ (x z : P) (m1 m2 : List P), stack gone L = z :: (m1 ++ [x]) ∧ stack gone (down L) = ng x :: (m2 ++ [ng z]) ∧ hull gone L = (x :: m1.reverse) ++ (z :: (m2.map ng).reverse) ∧ lt x z := by
  have lo := low_stack ha
  have up := low_stack (asc_down ha)
  have bl : bends gone L = (stack gone L).reverse := rfl
  have hh : hull gone L = (stack gone L).reverse.dropLast ++ (((stack gone (down L)).reverse).map ng).dropLast := by
    unfold hull
    rw [if_neg h2, bends_up]
    rfl
  rw [hh]
  obtain ⟨x, z, M, rfl⟩ : ∃ x z M, L = x :: (M ++ [z]) := by
    match L, h2 with
    | [], h => exact (h (by simp)).elim
    | [_], h => exact (h (by simp)).elim
    | a :: b :: r, _ => exact ⟨a, (b :: r).getLast (by simp), (b :: r).dropLast, by rw [List.dropLast_concat_getLast]⟩
  have hxz : lt x z := (List.pairwise_cons.mp ha).1 z (by simp)
  have lt1 : (stack gone (x :: (M ++ [z]))).head? = some z := by rw [lo.top]; exact List.getLast?_eq_some_iff.mpr ⟨x :: M, by simp⟩
  have lb1 : (stack gone (x :: (M ++ [z]))).getLast? = some x := lo.bot
  have ed : down (x :: (M ++ [z])) = ng z :: ((M.map ng).reverse ++ [ng x]) := by unfold down; simp
  have ut : (stack gone (down (x :: (M ++ [z])))).head? = some (ng x) := by rw [up.top, ed]; exact List.getLast?_eq_some_iff.mpr ⟨ng z :: (M.map ng).reverse, by simp⟩
  have ub : (stack gone (down (x :: (M ++ [z])))).getLast? = some (ng z) := by rw [up.bot, ed]; rfl
  generalize stack gone (x :: (M ++ [z])) = s1 at lt1 lb1
  generalize stack gone (down (x :: (M ++ [z]))) = s2 at ut ub
  have two : ∀ {s : List P} {u v : P}, s.head? = some u → s.getLast? = some v → u ≠ v → ∃ m, s = u :: (m ++ [v]) := by
    intro s u v h k hne
    match s, h with
    | a :: r, h =>
      obtain rfl : a = u := Option.some.inj h
      cases r with
      | nil => exact (hne (Option.some.inj k)).elim
      | cons b r =>
        rw [List.getLast?_cons_cons] at k
        obtain ⟨l, e⟩ := List.getLast?_eq_some_iff.mp k
        exact ⟨l, by rw [e]⟩
  have xz : x ≠ z := fun e => by subst e; exact lt_irrefl hxz
  obtain ⟨m1, rfl⟩ := two lt1 lb1 (Ne.symm xz)
  obtain ⟨m2, rfl⟩ := two ut ub (fun e => xz (by rw [← ng_ng x, ← ng_ng z, e]))
  have e1 : (z :: (m1 ++ [x])).reverse.dropLast = x :: m1.reverse := by simp [drop_end]
  have e2 : ((ng x :: (m2 ++ [ng z])).reverse.map ng).dropLast = z :: (m2.map ng).reverse := by simp [ng_ng, drop_end]
  exact ⟨x, z, m1, m2, rfl, rfl, by rw [e1, e2], hxz⟩
/-- two neighbours in a joined row -/
theorem split_join {α : Type} : ∀ {X Y A B : List α} {a b : α}, X ++ Y = A ++ a :: b :: B → (∃ B', X = A ++ a :: b :: B') ∨ (∃ Y', X = A ++ [a] ∧ Y = b :: Y') ∨ ∃ A', Y = A' ++ a :: b :: B
  | [], Y, A, B, a, b, e => Or.inr (Or.inr ⟨A, e⟩)
  | x :: X, Y, A, B, a, b, e => by
    cases A with
    | nil =>
      have e1 := (List.cons.inj e).1
      have e2 := (List.cons.inj e).2
      cases X with
      | nil => exact Or.inr (Or.inl ⟨B, by rw [e1]; rfl, e2⟩)
      | cons y X =>
        have e3 := (List.cons.inj e2).1
        exact Or.inl ⟨X, by rw [e1, e3]; rfl⟩
    | cons y A =>
      have e1 := (List.cons.inj e).1
      have e2 := (List.cons.inj e).2
      rcases split_join e2 with ⟨B', h⟩ | ⟨Y', h, h'⟩ | h
      · exact Or.inl ⟨B', by rw [e1, h]; rfl⟩
      · exact Or.inr (Or.inl ⟨Y', by rw [e1, h]; rfl, h'⟩)
      · exact Or.inr (Or.inr h)
theorem turn3 (x y w : P) : tt x y w = tt y w x := by unfold tt; grind
theorem hl_fan {l : List P} {x : P} {rest : List P} (h : hl l = x :: rest) {A B : List P} {a b : P} (e : rest = A ++ a :: b :: B) : 0 < tt x a b := by
  have ha := ascOf_asc l
  unfold hl at h
  by_cases h2 : (ascOf l).length < 2
  · exfalso
    unfold hull at h
    rw [if_pos h2] at h
    rw [h, e] at h2
    simp at h2
    omega
  · obtain ⟨x', z, m1, m2, s1, s2, hf, hxz⟩ := hull_form h2 ha
    rw [hf] at h
    have e1 : x' = x := (List.cons.inj h).1
    have e2 : m1.reverse ++ (z :: (m2.map ng).reverse) = rest := (List.cons.inj h).2
    subst e1
    have lo := low_stack ha
    have up := low_stack (asc_down ha)
    rw [s1] at lo
    rw [s2] at up
    have lbot : (z :: (m1 ++ [x'])).getLast? = some x' := List.getLast?_eq_some_iff.mpr ⟨z :: m1, by simp⟩
    have low : ∀ {A B : List P} {b a : P}, z :: (m1 ++ [x']) = A ++ b :: a :: B → a ≠ x' → 0 < tt x' a b := fun e hne => low_fan lo.desc lo.cvx lbot _ _ _ _ e (Ne.symm hne)
    have nd : (z :: (m1 ++ [x'])).Nodup := desc_nodup lo.desc
    have xm : x' ∉ m1 := fun q => by
      have := (List.nodup_cons.mp nd).2
      exact (List.nodup_append.mp this).2.2 x' q x' (by simp) rfl
    rw [e] at e2
    rcases split_join e2 with ⟨B', q⟩ | ⟨Y', q, q'⟩ | ⟨A', q⟩
    · -- both of the lower chain
      have q1 : m1 = B'.reverse ++ b :: a :: A.reverse := by
        have := congrArg List.reverse q
        simpa using this
      refine low (A := z :: B'.reverse) (B := A.reverse ++ [x']) ?_ (fun k => xm (by rw [← k, q1]; simp))
      rw [q1]
      simp
    · -- the last of the lower chain and z
      have hb : b = z := (List.cons.inj q').1.symm
      subst hb
      have q1 : m1 = a :: A.reverse := by
        have := congrArg List.reverse q
        simpa using this
      refine low (A := []) (B := A.reverse ++ [x']) ?_ (fun k => xm (by rw [← k, q1]; simp))
      rw [q1]
      simp
    · -- the upper chain
      have q1 : m2 ++ [ng z] = (B.map ng).reverse ++ ng b :: ng a :: (A'.map ng).reverse := by
        have h1 : z :: (m2.map ng).reverse = ((m2 ++ [ng z]).map ng).reverse := by simp [ng_ng]
        rw [h1] at q
        have h3 := congrArg List.reverse q
        rw [List.reverse_reverse] at h3
        have h4 := congrArg (List.map ng) h3
        have nn : ng ∘ ng = id := by funext p; exact ng_ng p
        rw [List.map_map, nn, List.map_id] at h4
        rw [h4]
        simp
      have k := low_fan2 up.desc up.cvx _ _ _ _ q1
      have e5 : tt (ng a) (ng b) (ng x') = tt a b x' := tt_ng a b x'
      rw [turn3]
      omega
/-- a polygon has an area: its corners in threes -/
theorem hl_three {l : List P} (h : 3 ≤ (hl l).length) : ∃ x a b B, hl l = x :: a :: b :: B ∧ 0 < tt x a b := by
  match e : hl l, h with
  | x :: a :: b :: B, _ => exact ⟨x, a, b, B, rfl, hl_fan e (A := []) rfl⟩
end Hull

namespace K8
open PySem L2 Ur Hull
abbrev sOnScale : Stmt := top 15
abbrev sTT : Stmt := top 16
abbrev sLB : Stmt := top 17
abbrev sHull : Stmt := top 18
abbrev sPolyF : Stmt := top 24
abbrev sSecF : Stmt := top 25
abbrev sChkS : Stmt := top 29
/-- values in a row, each with what it is -/
structure Al {α : Type} (R : V → α → Prop) (ys : List V) (ps : List α) : Prop where
  len : ys.length = ps.length
  at_ : ∀ (i : Nat) (y : V) (p : α), ys[i]? = some y → ps[i]? = some p → R y p
theorem Al.mono {α : Type} {R R' : V → α → Prop} {ys : List V} {ps : List α} (h : Al R ys ps) (k : ∀ y p, R y p → R' y p) : Al R' ys ps := ⟨h.len, fun i y p a b => k y p (h.at_ i y p a b)⟩
theorem Al.get {α : Type} {R : V → α → Prop} {ys : List V} {ps : List α} (h : Al R ys ps) {i : Nat} {y : V} (hy : ys[i]? = some y) : ∃ p, ps[i]? = some p ∧ R y p := by
  have hl := (List.getElem?_eq_some_iff.mp hy).1
  have : i < ps.length := by rw [← h.len]; exact hl
  exact ⟨ps[i], List.getElem?_eq_getElem this, h.at_ i y _ hy (List.getElem?_eq_getElem this)⟩
theorem Al.mem {α : Type} {R : V → α → Prop} {ys : List V} {ps : List α} (h : Al R ys ps) {y : V} (hy : y ∈ ys) : ∃ p ∈ ps, R y p := by
  obtain ⟨i, hi⟩ := List.getElem?_of_mem hy
  obtain ⟨p, hp, r⟩ := h.get hi
  exact ⟨p, List.mem_of_getElem? hp, r⟩
theorem Al.map {α : Type} {R : V → α → Prop} {ys : List V} {ps : List α} (h : Al R ys ps) {f : V → α} (k : ∀ y p, R y p → f y = p) : ys.map f = ps := by
  apply List.ext_getElem?
  intro i
  rw [List.getElem?_map]
  cases e : ys[i]? with
  | none =>
    have := List.getElem?_eq_none_iff.mp e
    rw [List.getElem?_eq_none (by rw [← h.len]; exact this)]
    rfl
  | some y =>
    obtain ⟨p, hp, r⟩ := h.get e
    rw [hp]
    exact congrArg some (k y p r)
/-- a pair of numbers, made by the def itself -/
def Sp2 (H : Hp) (y : V) (p : P) : Prop := ∃ t, y = .ref t ∧ H t = some (.tup [.int p.1, .int p.2])
theorem Sp2.same {H H' : Hp} (s : Same H H') {y : V} {p : P} (h : Sp2 H y p) : Sp2 H' y p := by
  obtain ⟨t, e, h⟩ := h
  exact ⟨t, e, s _ _ h⟩
def kOf (H : Hp) : V → P
  | .ref t => match H t with
    | some (.tup [.int a, .int b]) => (a, b)
    | _ => (0, 0)
  | _ => (0, 0)
theorem kOf_of {H : Hp} {y : V} {p : P} (h : Sp2 H y p) : kOf H y = p := by
  obtain ⟨t, rfl, h⟩ := h
  unfold kOf
  dsimp only
  rw [h]
def Kd2 (H : Hp) (k : V → P) (y : V) : Prop := Sp2 H y (k y)
theorem Kd2.same {H H' : Hp} (s : Same H H') {k : V → P} {y : V} (h : Kd2 H k y) : Kd2 H' k y := Sp2.same s h
theorem mono_sp {H : Hp} (g : Nat → P) : Mono H fun H' i y => Sp2 H' y (g i) := by
  rintro D H1 H2 j y hD ⟨ys, hl⟩ s1 keep ⟨t, e, h⟩
  exact ⟨t, e, keep t _ (fun z => by rw [z, hl] at h; cases h) h⟩
structure Bq (a : P) : Prop where
  x : a.1.natAbs < 2 ^ 100
  y : a.2.natAbs < 2 ^ 100
theorem sub101 {x y : Int} (h : x.natAbs < 2 ^ 100) (k : y.natAbs < 2 ^ 100) : (x - y).natAbs < 2 ^ 101 := by
  have : (2 : Nat) ^ 101 = 2 ^ 100 + 2 ^ 100 := by decide
  omega
theorem mq {x y : Int} (h : x.natAbs < 2 ^ 101) (k : y.natAbs < 2 ^ 101) : CMulW x y := wide_mul (a := 101) (b := 101) h k (by decide) (by decide) (by decide)
section
variable {P' : Program} {w : World} {K :
      PySem.W.Frag} {mg : Str → Option Value} {base : Heap}
/-! ### whole numbers instead of fractions -/
def w3 (p : List Int) : Nat := (p.getD 2 0).natAbs
def scl (pts : List (List Int)) : Nat := pts.foldl (fun g p => Nat.lcm g (w3 p)) 1
def fsc (L : Nat) (p : List Int) : P := (p.getD 0 0 * ((L : Int) / p.getD 2 0), p.getD 1 0 * ((L : Int) / p.getD 2 0))
def Pt3 (n : Nat) (p : List Int) : Prop := ∃ x y w, PtL n p x y w
theorem fold_dvd {S : Nat} : ∀ (pts : List (List Int)) (g : Nat), g ∣ S → (∀ p ∈ pts, w3 p ∣ S) → pts.foldl (fun g p => Nat.lcm g (w3 p)) g ∣ S
  | [], g, h, _ => h
  | p :: r, g, h, k => fold_dvd r _ (Nat.lcm_dvd h (k p List.mem_cons_self)) fun q hq => k q (List.mem_cons_of_mem _ hq)
theorem fold_grow : ∀ (pts : List (List Int)) (g : Nat), g ∣ pts.foldl (fun g p => Nat.lcm g (w3 p)) g
  | [], g => Nat.dvd_refl _
  | p :: r, g => Nat.dvd_trans (Nat.dvd_lcm_left _ _) (fold_grow r _)
theorem fold_has {p : List Int} : ∀ (pts : List (List Int)) (g : Nat), p ∈ pts → w3 p ∣ pts.foldl (fun g p => Nat.lcm g (w3 p)) g
  | [], g, h => by cases h
  | q :: r, g, h => by
    rcases List.mem_cons.mp
          h with rfl | h
    · exact Nat.dvd_trans (Nat.dvd_lcm_right _ _) (fold_grow r _)
    · exact fold_has r _ h
theorem scl_dvd {pts : List (List Int)} {S : Nat} (h : ∀ p ∈ pts, w3 p ∣ S) : scl pts ∣ S := fold_dvd pts 1 (Nat.one_dvd _) h
theorem scl_has {pts : List (List Int)} {p : List Int} (h : p ∈ pts) : w3 p ∣ scl pts := fold_has pts 1 h
theorem scl_next {pts : List (List Int)} {i : Nat} {p : List Int} (h : pts[i]? = some p) : scl (pts.take (i + 1)) = Nat.lcm (scl (pts.take i)) (w3 p) := by
  unfold scl
  rw [take_next h, List.foldl_append]
  rfl
structure Scb (pts : List (List Int)) (S : Nat) : Prop where
  few : pts.length ≤ 1000
  ok : ∀ p ∈ pts, Pt3 100 p
  dvd : ∀ p ∈ pts, w3 p ∣ S
  s0 : 0 < S
  s1 : S < 2 ^ 60
theorem Scb.scl_pos {pts : List (List Int)} {S : Nat} (h : Scb pts S) : 0 < scl pts := Nat.pos_of_dvd_of_pos (scl_dvd h.dvd) h.s0
theorem Scb.scl_le {pts : List (List Int)} {S : Nat} (h : Scb pts S) : scl pts ≤ S := Nat.le_of_dvd h.s0 (scl_dvd h.dvd)
theorem Scb.take {pts : List (List Int)} {S : Nat} (h : Scb pts S) (i : Nat) : scl (pts.take i) ≤ S := Nat.le_of_dvd h.s0 (scl_dvd fun p hp => h.dvd p (List.mem_of_mem_take hp))
theorem fsc_bq {pts : List (List Int)} {S : Nat} (h : Scb pts S) {p : List Int} (hp : p ∈ pts) : Bq (fsc (scl pts) p) := by
  obtain ⟨x, y, w, A⟩ := h.ok p hp
  have e := A.eq
  subst e
  have h1 := h.scl_le
  have h2 := h.s1
  have w0 := A.pos
  have d0 : 0 ≤ (scl pts : Int) / w := Int.ediv_nonneg (by omega) (by omega)
  have d1 : (scl pts : Int) / w ≤ scl pts := Int.ediv_le_self _ (by omega)
  have hd : ((scl pts : Int) / w).natAbs ≤ 2 ^ 60 := by omega
  have mul : ∀ {z : Int}, z.natAbs ≤ 100 → (z * ((scl pts : Int) / w)).natAbs < 2 ^ 100 := fun {z} hz => by
    rw [Int.natAbs_mul]
    exact Nat.lt_of_le_of_lt (Nat.mul_le_mul hz hd) (by decide)
  exact ⟨mul A.bx, mul A.bby⟩
def spScale (K : PySem.W.Frag) : Sp := fun vs H Q _ => ∃ (t : Addr) (xs : List V) (pts : List (List Int)) (S : Nat), vs = [.ref t] ∧ SqT K H t xs ∧ Al (Tp K H) xs pts ∧ Scb pts S ∧
  ∀ (H' : Hp) (r l : Addr) (ys : List V), Same H H' → SqT K H' r [.ref l, .int (scl pts : Nat)] → H' l = some (.lst ys) → Al (Sp2 H') ys (pts.map (fsc (scl pts))) → Q (.ref r) H'
abbrev n_on_scale : List Str := ["points", "scale", "point", "x", "y", "w"]
abbrev p_points : List Str := ["points"]
theorem sc_on_scale : FnScope n_on_scale p_points (defScope sOnScale) := ⟨rfl, rfl, rfl, by decide +kernel, rfl, by decide +kernel, by decide +kernel⟩
theorem ok_scale {f : Addr} {fd : FuncData} (F : Fun K "on_scale" "on_scale" sOnScale f fd) (mL : mg "lcm" = some (.builtin "math.lcm")) : FnOk P' w K mg base CX0 1 f fd p_points (spScale K) := by
  refine F.ok sc_on_scale (fun vs H Q E h => ?_) (fun cdv A outer s H vs Q E hr h => ?_)
  · obtain ⟨t, _, _, _, rfl, _⟩ := h
    rfl
  · obtain ⟨t, xs, pts, S, rfl, hS, hA, hB, q⟩ := h
    refine ⟨_, (pss_cons (ps_set (i := 1) sc_on_scale.nd rfl (Or.inr rfl) pe_int)
      (pss_cons (ps_for PassesOwn.never rfl (pi_tup (pv 0)) (pg_name (i := 2) sc_on_scale.nd rfl (Or.inl rfl)) (pss_one (ps_set (i := 1) sc_on_scale.nd rfl (Or.inr rfl) (pe_callBfun cr_lcm (by rfl) mL (pa_cons (pv 1) (pa_cons (pe_ix (r := rIxT K) ix_tup (pv 2) pe_int (fun _ _ => rfl)) pa_nil))))))
      (pss_one (ps_ret (pe_tup (pa_cons (pe_lc (own := [("x", 3), ("y", 4), ("w", 5)]) (g := gTrip K 3 4 5) (tt := tYes) rfl sc_on_scale.nd (pi_tup (pv 0)) (blkOk_by (N := n_on_scale) (sc := defScope sOnScale) (by decide +kernel)) (fun _ _ _ _ _ => pg_tup rfl (pgs_cons (pg_name (i := 3) sc_on_scale.nd rfl (Or.inl rfl)) (pgs_cons (pg_name (i := 4) sc_on_scale.nd rfl (Or.inl rfl)) (pgs_cons (pg_name (i := 5) sc_on_scale.nd rfl (Or.inl rfl)) pgs_nil)))) (fun _ _ _ _ _ => pts_nil) (fun _ _ _ _ _ => (pe_tup (pa_cons (pe_op op_mulW (pv 3) (pe_op op_fdivW (pv 1) (pv 5))) (pa_cons (pe_op op_mulW (pv 4) (pe_op op_fdivW (pv 1) (pv 5))) pa_nil))))) (pa_cons (pv 1) pa_nil))))))), ?_⟩
    refine ⟨_, rfl, t, rfl, ⟨_, hS⟩, for_tup (K := K) (a := t) (xs := xs) (fun i σ H' => ∃ v : Option V, σ = [some (.ref t), some (.int (scl (pts.take i) : Nat)), v, none, none, none] ∧ H' = H) ⟨none, rfl, rfl⟩ (fun i σ H' _ ⟨_, _, e⟩ => e ▸ hS) ?_ ?_⟩
    · rintro i y σ H' hi ⟨v, rfl, rfl⟩
      obtain ⟨p, hp, ⟨tp, rfl, sp⟩⟩ := hA.get hi
      obtain ⟨x, y, w', A⟩ := hB.ok p (List.mem_of_getElem? hp)
      have e := A.eq
      subst e
      have hw : w3 [x, y, w'] = w'.natAbs := rfl
      have e3 : ((w'.natAbs : Nat) : Int) = w' := by have := A.pos; omega
      refine ⟨_, rfl, _, rfl, tp, _, 2, _, rfl, rfl, sp, rfl, scl (pts.take i), w'.natAbs, ?_, ?_, ?_, ?_⟩
      · rw [e3]
      · have := hB.take i; have := hB.s1; omega
      · have := A.bw; omega
      · refine ⟨some (.ref tp), ?_, rfl⟩
        rw [scl_next hp, hw]
        rfl
    · rintro σ H' ⟨v, rfl, rfl⟩
      have ep : pts.take xs.length = pts := by rw [hA.len, List.take_length]
      rw [ep]
      unfold tRet tTup tCons tNil
      dsimp only
      refine lcT3 (K := K) (a := t) (xs := xs) (fun i => (.int ((pts.getD i []).getD 0 0), .int ((pts.getD i []).getD 1 0), .int ((pts.getD i []).getD 2 0))) (fun H' i y => Sp2 H' y (fsc (scl pts) (pts.getD i []))) (mono_sp _) (fun R r => ⟨_, rfl, r⟩) hS (fun i x hi => ?_) (by have := hB.few; rw [hA.len]; omega) (fun _ _ _ => rfl) (fun i x H3 hi sm Q' q' => ?_) (fun D ys H2 hD sm hy e1 e2 => ?_)
      · obtain ⟨p, hp, ⟨tp, rfl, sp⟩⟩ := hA.get hi
        obtain ⟨x, y, w', A⟩ := hB.ok p (List.mem_of_getElem? hp)
        have e := A.eq
        subst e
        have ep : pts.getD i [] = [x, y, w'] := by rw [List.getD_eq_getElem?_getD, hp]; rfl
        refine ⟨tp, rfl, ?_⟩
        rw [ep]
        exact sp
      · obtain ⟨p, hp, _⟩ := hA.get hi
        obtain ⟨x, y, w', A⟩ := hB.ok p (List.mem_of_getElem? hp)
        have e := A.eq
        subst e
        have ep : pts.getD i [] = [x, y, w'] := by rw [List.getD_eq_getElem?_getD, hp]; rfl
        rw [ep] at q' ⊢
        have hL := hB.scl_le
        have hS1 := hB.s1
        have w0 := A.pos
        have cd : CDivW (scl pts : Nat) w' := wide_div (b := 9000) w0 (Nat.lt_of_le_of_lt A.bw (Nat.lt_of_lt_of_le (by decide : 100 < 2 ^ 7) (Nat.pow_le_pow_right (by decide) (by decide)))) (by decide) (by decide)
        have d0 : 0 ≤ (scl pts : Int) / w' := Int.ediv_nonneg (by omega) (by omega)
        have d1 : (scl pts : Int) / w' ≤ scl pts := Int.ediv_le_self _ (by omega)
        have bd : ((scl pts : Int) / w').natAbs < 2 ^ 101 := Nat.lt_trans (by omega : _ < 2 ^ 60) (by decide)
        have b1 : ∀ {z : Int}, z.natAbs ≤ 100 → z.natAbs < 2 ^ 101 := fun h => Nat.lt_of_le_of_lt h (by decide)
        refine ⟨_, rfl, _, rfl, _, rfl, _, _, rfl, rfl, cd, _, _, rfl, rfl, mq (b1 A.bx) bd, _, rfl, _, rfl, _, rfl, _, _, rfl, rfl, cd, _, _, rfl, rfl, mq (b1 A.bby) bd, by show 2 ≤ sizeLine; decide, fun p hp => q' _ _ ⟨p, rfl, upd_same⟩ (same_new hp)⟩
      · refine ⟨_, rfl, by show 2 ≤ sizeLine; decide, fun r hr => q _ r D ys (sm.trans (same_new hr)) (SqT.of upd_same) (same_new hr _ _ hy) ⟨by rw [e1, hA.len, List.length_map], fun i y p hi hp => ?_⟩⟩
        have h1 := e2 i y hi
        have e : p = fsc (scl pts) (pts.getD i []) := by
          rw [List.getElem?_map] at hp
          rw [List.getD_eq_getElem?_getD (l := pts)]
          cases h : pts[i]? with
          | none => rw [h] at hp; cases hp
          | some z => rw [h] at hp; exact (Option.some.inj hp).symm
        rw [e]
        exact h1.same (same_new hr)
/-! ### twice the area of a triangle -/
def spTT : Sp := fun vs H Q _ => ∃ (v1 v2 v3 : V) (a b c : P), vs = [v1, v2, v3] ∧ Sp2 H v1 a ∧ Sp2 H v2 b ∧ Sp2 H v3 c ∧ Bq a ∧ Bq b ∧ Bq c ∧ Q (.int (tt a b c)) H
abbrev p_tt : List Str := ["one", "two", "three"]
theorem sc_tt : FnScope p_tt p_tt (defScope sTT) := ⟨rfl, rfl, rfl, by decide +kernel, rfl, by decide +kernel, by decide +kernel⟩
theorem ok_tt {f : Addr} {fd : FuncData} (F : Fun K "twice_triangle" "twice_triangle" sTT f fd) : FnOk P' w K mg base CX0 1 f fd p_tt spTT := by
  refine F.ok sc_tt (fun vs H Q E h => ?_) (fun cdv A outer s H vs Q E hr h => ?_)
  · obtain ⟨_, _, _, _, _, _, rfl, _⟩ := h
    rfl
  · obtain ⟨v1, v2, v3, ⟨a1, a2⟩, ⟨b1, b2⟩, ⟨c1, c2⟩, rfl, ⟨ta, rfl, sa⟩, ⟨tb, rfl, sb⟩, ⟨tc, rfl, sc⟩, A, B, C, q⟩ := h
    refine ⟨_, (pss_one (ps_ret (pe_op op_sub (pe_op op_mulW (pe_op op_sub (pe_ix (r := rIxT K) ix_tup (pv 1) pe_int (fun _ _ => rfl)) (pe_ix (r := rIxT K) ix_tup (pv 0) pe_int (fun _ _ => rfl))) (pe_op op_sub (pe_ix (r := rIxT K) ix_tup (pv 2) pe_int (fun _ _ => rfl)) (pe_ix (r := rIxT K) ix_tup (pv 0) pe_int (fun _ _ => rfl)))) (pe_op op_mulW (pe_op op_sub (pe_ix (r := rIxT K) ix_tup (pv 1) pe_int (fun _ _ => rfl)) (pe_ix (r := rIxT K) ix_tup (pv 0) pe_int (fun _ _ => rfl))) (pe_op op_sub (pe_ix (r := rIxT K) ix_tup (pv 2) pe_int (fun _ _ => rfl)) (pe_ix (r := rIxT K) ix_tup (pv 0) pe_int (fun _ _ => rfl))))))), ?_⟩
    have ia : ∀ (i : Int) (x : V), atI [V.int a1, .int a2] i = some x → atI [V.int a1, .int a2] i = some x := fun _ _ h => h
    refine ⟨_, rfl, tb, _, 0, _, rfl, rfl, SqT.of sb, rfl, _, rfl, ta, _, 0, _, rfl, rfl, SqT.of sa, rfl, _, _, rfl, rfl, _, rfl, tc, _, 1, _, rfl, rfl, SqT.of sc, rfl, _, rfl, ta, _, 1, _, rfl, rfl, SqT.of sa, rfl, _, _, rfl, rfl, _, _, rfl, rfl, mq (sub101 B.x A.x) (sub101 C.y A.y),
      _, rfl, tb, _, 1, _, rfl, rfl, SqT.of sb, rfl, _, rfl, ta, _, 1, _, rfl, rfl, SqT.of sa, rfl, _, _, rfl, rfl, _, rfl, tc, _, 0, _, rfl, rfl, SqT.of sc, rfl, _, rfl, ta, _, 0, _, rfl, rfl, SqT.of sa, rfl, _, _, rfl, rfl, _, _, rfl, rfl, mq (sub101 B.y A.y) (sub101 C.x A.x), _, _, rfl, rfl, q⟩
/-! ### what is left if a way may only bend to the left -/
abbrev tk (k : V → P) (a b c : V) : Bool := gone (k a) (k b) (k c)
def spLB (K : PySem.W.Frag) : Sp := fun vs H Q _ => ∃ (a : Addr) (xs : List V) (k : V → P), vs = [.ref a] ∧ SqL K H a xs ∧ xs.length ≤ 1000 ∧ (∀ x ∈ xs, Kd2 H k x ∧ Bq (k x)) ∧ ∀ l H', H l = none → Same H H' → H' l = some (.lst (bends (tk k) xs)) → Q (.ref l) H'
abbrev n_lb : List Str := ["spots", "kept", "spot"]
abbrev p_spots : List Str := ["spots"]
theorem sc_lb : FnScope n_lb p_spots (defScope sLB) := ⟨rfl, rfl, rfl, by decide +kernel, rfl, by decide +kernel, by decide +kernel⟩
theorem stack_next {α : Type} {t : α → α → α → Bool} {xs : List α} {i : Nat} {x : α} (h : xs[i]? = some x) : Hull.stack t (xs.take (i + 1)) = x :: popw t x (Hull.stack t (xs.take i)) := by
  unfold Hull.stack
  rw [take_next h, List.foldl_append]
  rfl
theorem popw_mem {α : Type} {t : α → α → α → Bool} {p x : α} : ∀ {st : List α}, x ∈ popw t p st → x ∈ st
  | [], h => h
  | [_], h => h
  | b :: a :: r, h => by
    have e : popw t p (b :: a :: r) = if t a b p then popw t p (a :: r) else b :: a :: r := rfl
    rw [e] at h
    split at h
    · exact List.mem_cons_of_mem _ (popw_mem h)
    · exact h
theorem stack_mem' {α : Type} {t : α → α → α → Bool} {x : α} : ∀ (l st : List α), x ∈ l.foldl (Hull.step t) st → x ∈ st ∨ x ∈ l
  | [], st, h => Or.inl h
  | p :: l, st, h => by
    rcases stack_mem' l _ h with k | k
    · rcases List.mem_cons.mp k with rfl | k
      · exact Or.inr List.mem_cons_self
      · exact Or.inl (popw_mem k)
    · exact Or.inr (List.mem_cons_of_mem _ k)
theorem stack_mem {α : Type} {t : α → α → α → Bool} {x : α} {l : List α} (h : x ∈ Hull.stack t l) : x ∈ l := by
  rcases stack_mem' l [] h with k | k
  · cases k
  · exact k
theorem popw_len {α : Type} {t : α → α → α → Bool} {p : α} : ∀ (st : List α), (popw t p st).length ≤ st.length
  | [] => Nat.le_refl _
  | [_] => Nat.le_refl _
  | b :: a :: r => by
    have e : popw t p (b :: a :: r) = if t a b p then popw t p (a :: r) else b :: a :: r := rfl
    rw [e]
    split
    · have := popw_len (t := t) (p := p) (a :: r)
      simp only [List.length_cons] at this ⊢
      omega
    · exact Nat.le_refl _
theorem stack_len {α : Type} {t : α → α → α → Bool} : ∀ (l st : List α), (l.foldl (Hull.step t) st).length ≤ st.length + l.length
  | [], st => Nat.le_refl _
  | p :: l, st => by
    have h1 := stack_len (t := t) l (Hull.step t st p)
    have h2 := popw_len (t := t) (p := p) st
    simp only [List.foldl_cons, List.length_cons] at h1 ⊢
    have e : (Hull.step t st p).length = (popw t p st).length + 1 := rfl
    omega
theorem atI_two (xs : List V) (c b : V) : atI (xs ++ [c] ++ [b]) (-2) = some c := by
  have hl : (xs ++ [c] ++ [b]).length = xs.length + 2 := by simp
  have e : ixN (xs ++ [c] ++ [b]).length (-2) = some xs.length := by
    unfold ixN
    rw [hl, if_neg (by decide),
          if_pos (by omega)]
    congr 1
    omega
  unfold atI
  rw [e]
  simp
theorem ok_lb {f : Addr} {fd : FuncData} (F : Fun K "_left_bends" "_left_bends" sLB f fd) (T : Bl mg) (H_twice_triangle : Has P' w K mg base "twice_triangle" p_tt 1 spTT) : FnOk P' w K mg base CX0 2 f fd p_spots (spLB K) := by
  refine F.ok sc_lb (fun vs H Q E h => ?_) (fun cdv A outer s H vs Q E hr h => ?_)
  · obtain ⟨t, _, _, rfl, _⟩ := h
    rfl
  · obtain ⟨a, xs, k, rfl, hS, hz, hK, q⟩ := h
    refine ⟨_, (pss_cons (ps_set (i := 1) sc_lb.nd rfl (Or.inl rfl) (pe_lst pa_nil))
      (pss_cons (ps_for PassesOwn.never rfl (pi_list (pv 0)) (pg_name (i := 2) sc_lb.nd rfl (Or.inl rfl)) (pss_cons (ps_while PassesOwn.never ((pw_and (pt_cmpR op_gt (pe_callB (r := Ur.rLen K) Ur.len_seq (by rfl) T.len PySem.boot_len (pa_cons (pv 1) pa_nil)) pe_int (nomark _)) (pw_and1 (pt_cmpR op_le (pe_has H_twice_triangle (hr.mono (by decide)) (by rfl) (pa_cons (pe_ix (r := rIxL K) ix_list (pv 1) (pe_un un_neg pe_int) (fun _ _ => rfl)) (pa_cons (pe_ix (r := rIxL K) ix_list (pv 1) (pe_un un_neg pe_int) (fun _ _ => rfl)) (pa_cons (pv 2) pa_nil)))) pe_int (nomark _))))).pt (pss_one (ps_expr (pe_bm0 PySem.F.plainAttrs_list PySem.F.slot_list_pop PySem.F.type_list_pop mt_pop (pv 1)))))
      (pss_one (ps_expr (pe_bm PySem.F.plainAttrs_list PySem.F.slot_list_append PySem.F.type_list_append mt_append (pv 1) (pa_cons (pv 2) pa_nil))))))
      (pss_one (ps_ret (pv 1))))), ?_⟩
    refine ⟨by show 0 ≤ sizeLine; decide, fun l hl => ?_⟩
    refine ⟨_, rfl, a, rfl, ⟨_, (same_new hl).seq hS⟩, for_list (K := K) (a := a) (xs := xs) (fun i σ H' => ∃ v : Option V, σ = [some (.ref a), some (.ref l), v] ∧ Same H H' ∧ H' l = some (.lst (Hull.stack (tk k) (xs.take i)).reverse)) ⟨none, rfl, same_new hl, upd_same⟩ (fun i σ H' _ ⟨_, _, sm, _⟩ => sm.seq hS) ?_ ?_⟩
    · rintro i x σ H' hi ⟨v, rfl, sm, hk⟩
      have hx := hK x (List.mem_of_getElem? hi)
      have hst : ∀ y ∈ Hull.stack (tk k) (xs.take i), Kd2 H k y ∧ Bq (k y) := fun y hy => hK y (List.mem_of_mem_take (stack_mem hy))
      have hsl : (Hull.stack (tk k) (xs.take i)).length ≤ 1000 := by
        have := stack_len (t := tk k) (xs.take i) []
        have h2 : (xs.take i).length ≤ 1000 := by rw [List.length_take]; omega
        have e : Hull.stack (tk k) (xs.take i) = (xs.take i).foldl (Hull.step (tk k)) [] := rfl
        rw [e]
        simp only [List.length_nil] at this
        omega
      have hnx := stack_next (t := tk k) hi
      generalize Hull.stack (tk k) (xs.take i) = st0 at hk hst hsl hnx
      refine ⟨fun m σ H'' => ∃ st, st.length = m ∧ σ = [some (.ref a), some (.ref l), some x] ∧ Same H H'' ∧ H'' l = some (.lst st.reverse) ∧ popw (tk k) x st = popw (tk k) x st0 ∧ (∀ y ∈ st, Kd2 H k y ∧ Bq (k y)) ∧ st.length ≤ 1000, ⟨_, st0, rfl, rfl, sm, hk, rfl, hst, hsl⟩, ?_⟩
      rintro m σ H'' ⟨st, rfl, rfl, s2, h2, ep, hst2, hl2⟩
      refine ⟨_, rfl, l, _, rfl, Or.inl (SqL.of h2), ?_⟩
      rw [List.length_reverse]
      match st, ep, hst2, hl2, h2 with
      | [], ep, hst2, hl2, h2 =>
        refine ⟨_, _, rfl, rfl, _, rfl, ?_⟩
        refine ite2 (fun c => absurd (of_decide_eq_true c) (by decide)) (fun _ => ?_)
        exact ⟨_, rfl, Or.inl ⟨rfl, _, SqL.of h2⟩, _, rfl, l, _, _, rfl, rfl, h2, by show 0 < sizeLine; decide, some x, rfl, same_own s2 hl, by rw [upd_same, hnx, ← ep]; rfl⟩
      | [b], ep, hst2, hl2, h2 =>
        refine ⟨_, _, rfl, rfl, _, rfl, ?_⟩
        refine ite2 (fun c => absurd (of_decide_eq_true c) (by simp)) (fun _ => ?_)
        exact ⟨_, rfl, Or.inl ⟨rfl, _, SqL.of h2⟩, _, rfl, l, _, _, rfl, rfl, h2, by show 1 < sizeLine; decide, some x, rfl, same_own s2 hl, by rw [upd_same, hnx, ← ep]; rfl⟩
      | b :: c :: r, ep, hst2, hl2, h2 =>
        have er : (b :: c :: r).reverse = r.reverse ++ [c] ++ [b] := by simp
        rw [er] at h2
        have hb := hst2 b List.mem_cons_self
        have hc := hst2 c (List.mem_cons_of_mem _ List.mem_cons_self)
        have ei : popw (tk k) x (b :: c :: r) = if tk k c b x then popw (tk k) x (c :: r) else b :: c :: r := rfl
        refine ⟨_, _, rfl, rfl, _, rfl, ?_⟩
        refine ite2 (fun _ => ?_) (fun d => absurd (decide_eq_true (by simp only [List.length_cons]; omega)) d)
        refine ⟨_, rfl, _, rfl, l, _, _, c, rfl, rfl, SqL.of h2, atI_two _ _ _, _, rfl, _, rfl, l, _, _, b, rfl, rfl, SqL.of h2, atI_last _ _, _, rfl, c, b, x, k c, k b, k x, rfl, hc.1.same s2, hb.1.same s2, hx.1.same s2, hc.2, hb.2, hx.2, _, _, rfl, rfl, _, rfl, ?_⟩
        refine ite2 (fun d => ?_) (fun d => ?_)
        · have e2 : popw (tk k) x (c :: r) = popw (tk k) x st0 := by
            rw [← ep, ei, if_pos (show tk k c b x = true from d)]
          refine ⟨fun σ' H' => σ' = [some (.ref a), some (.ref l), some x] ∧ Same H H' ∧ H' l = some (.lst (c :: r).reverse), fun σ' H' ⟨g1, g2, g3⟩ => ⟨(c :: r).length, by simp, c :: r, rfl, g1, g2, g3, e2, fun y hy => hst2 y (List.mem_cons_of_mem _ hy), by simp only [List.length_cons] at hl2 ⊢; omega⟩, ?_⟩
          exact ⟨_, rfl, Or.inl ⟨rfl, _, SqL.of h2⟩, l, _, b, rfl, rfl, h2, by simp, rfl, same_own s2 hl, by rw [upd_same, List.dropLast_concat]; simp⟩
        · have e2 : b :: c :: r = popw (tk k) x st0 := by
            rw [← ep, ei, if_neg (show ¬ tk k c b x = true from d)]
          refine ⟨_, rfl, Or.inl ⟨rfl, _, SqL.of h2⟩, _, rfl, l, _, _, rfl, rfl, h2, ?_, some x, rfl, same_own s2 hl, by rw [upd_same, hnx, ← e2]; simp⟩
          refine Nat.lt_of_le_of_lt (?_ : _ ≤ 1000) (by decide)
          simp only [List.length_append, List.length_reverse, List.length_cons, List.length_nil] at hl2 ⊢
          omega
    · rintro σ H' ⟨v, rfl, sm, hk⟩
      rw [List.take_length] at hk
      exact ⟨_, rfl, q l H' hl sm hk⟩
end
end K8

namespace K8
open PySem L2 Ur Hull
/-! ### neighbours told once -/
theorem once_snoc {a : P} : ∀ (A : List P) (o : Option P), once o (A ++ [a]) = once o A ++ (if (A.getLast?.or o) = some a then [] else [a])
  | [], o => by
    show (if o = some a then once (some a) [] else a :: once (some a) []) = [] ++ (if o = some a then [] else [a])
    rw [List.nil_append]
    rfl
  | b :: r, o => by
    have ih := once_snoc (a := a) r (some b)
    have e1 : once o (b :: r ++ [a]) = if o = some b then once (some b) (r ++ [a]) else b :: once (some b) (r ++ [a]) := rfl
    have e2 : once o (b :: r) = if o = some b then once (some b) r else b :: once (some b) r := rfl
    have e3 : (b :: r).getLast?.or o = r.getLast?.or (some b) := by
      cases r with
      | nil => rfl
      | cons c r =>
        rw [List.getLast?_cons_cons]
        cases h : (c :: r).getLast? with
        | none => rw [List.getLast?_eq_none_iff] at h; cases h
        | some z => rfl
    rw [e1, e2, e3, ih]
    split
    · rfl
    · rfl
def fOnce (k : V → P) (xs : List V) (i : Nat) : Bool := decide (i = 0) || !decide (k (xs.getD i .non) = k (xs.getD (i - 1) .non))
theorem acc_once (k : V → P) (xs : List V) : ∀ i, i ≤ xs.length → (accF (fOnce k xs) xs i).map k = once none ((xs.take i).map k)
  | 0, _ => by simp [accF, once]
  | i + 1, h => by
    have ih := acc_once k xs i (by omega)
    have hx : xs[i]? = some xs[i] := List.getElem?_eq_getElem (by omega)
    have e : accF (fOnce k xs) xs (i + 1) = if fOnce k xs i then accF (fOnce k xs) xs i ++ (xs[i]?).toList else accF (fOnce k xs) xs i := rfl
    rw [e, take_next hx, List.map_append, List.map_cons, List.map_nil, once_snoc, ← ih, hx]
    have gi : xs.getD i .non = xs[i] := by rw [List.getD_eq_getElem?_getD, hx]; rfl
    have key : fOnce k xs i = !decide ((List.map k (List.take i xs)).getLast?.or none = some (k xs[i])) := by
      unfold fOnce
      rw [gi]
      cases i with
      | zero => simp
      | succ j =>
        have hj : xs[j]? = some xs[j] := List.getElem?_eq_getElem (by omega)
        have gj : xs.getD (j + 1 - 1) .non = xs[j] := by rw [Nat.add_sub_cancel, List.getD_eq_getElem?_getD, hj]; rfl
        rw [gj, take_next hj, List.map_append, List.map_cons, List.map_nil, List.getLast?_concat]
        show (decide (j + 1 = 0) || !decide (k xs[j + 1] = k xs[j])) = !decide (some (k xs[j]) = some (k xs[j + 1]))
        simp only [Nat.add_one_ne_zero, decide_false, Bool.false_or, Option.some.injEq]
        congr 1
        exact decide_eq_decide.mpr ⟨fun h => h.symm, fun h => h.symm⟩
    rw [key]
    by_cases c : (List.map k (List.take i xs)).getLast?.or none = some (k xs[i])
    · rw [if_pos c, decide_eq_true c]
      simp
    · rw [if_neg c, decide_eq_false c]
      simp
theorem sorted_lt {k : V → P} {ys : List V} (h : SrtO.Srtd (ltP k) ys) : (ys.map k).Pairwise (fun x y => ¬ lt y x) := by
  rw [List.pairwise_map]
  refine List.Pairwise.imp (fun {x y} (e : ltP k y x = false) => ?_) h
  intro l
  have h1 := SrtO.lexB_no.mp e
  unfold lt at l
  omega
theorem cut_last (xs : List V) : cutV xs none (some (-1)) = xs.dropLast := by
  unfold cutV
  have e1 : HT.sIx xs.length 0 none = 0 := rfl
  have e2 : HT.sIx xs.length xs.length (some (-1)) = xs.length - 1 := by
    show (if (-1 : Int) < 0 then ((-1 : Int) + (xs.length : Int)).toNat else min (-1 : Int).toNat xs.length) = _
    rw [if_pos (by decide)]
    omega
  rw [e1, e2, List.drop_zero, Nat.sub_zero, ← List.dropLast_eq_take]
/-! ### the hull of points -/
def hullOf (pts : List (List Int)) : List (List Int) := (hl (pts.map (fsc (scl pts)))).map fun p => thin [p.1, p.2, (scl pts : Nat)]
def spHull (K : PySem.W.Frag) : Sp := fun vs H Q _ => ∃ (t : Addr) (xs : List V) (pts : List (List Int)) (S : Nat), vs = [.ref t] ∧ SqT K H t xs ∧ Al (Tp K H) xs pts ∧ Scb pts S ∧
  ∀ (H' : Hp) (r : Addr) (zs : List V), Same H H' → SqT K H' r zs → Al (Tp K H') zs (hullOf pts) → Q (.ref r) H'
theorem mono_tp {K : PySem.W.Frag} {H : Hp} (g : Nat → List Int) : Mono H fun H' i y => Tp K H' y (g i) := by
  rintro D H1 H2 j y hD ⟨ys, hl⟩ s1 keep ⟨t, e, h⟩
  refine ⟨t, e, ?_⟩
  rcases h with (h
        | ⟨o, h⟩) | h
  · exact Or.inl (Or.inl (keep t _ (fun z => by rw [z, hl] at h; cases h) h))
  · exact Or.inl (Or.inr ⟨o, keep t _ (fun z => by rw [z, hl] at h; cases h) h⟩)
  · exact Or.inr h
theorem w2_100 {n : Nat} (h : n < 2 ^ 100) : n ≤ W2 := Nat.le_trans (Nat.le_of_lt h) (by unfold W2; exact Nat.pow_le_pow_right (by decide) (by decide))
theorem hull_len' {α : Type} (t : α → α → α → Bool) (xs : List α) : (hull t xs).length ≤ 2 * xs.length := by
  unfold hull
  split
  · omega
  · rw [List.length_append, List.length_dropLast, List.length_dropLast]
    unfold bends
    rw [List.length_reverse, List.length_reverse]
    have h1 : (Hull.stack t xs).length ≤ 0 + xs.length := stack_len xs []
    have h2 : (Hull.stack t xs.reverse).length ≤ 0 + xs.reverse.length := stack_len xs.reverse []
    rw [List.length_reverse] at h2
    omega
theorem hull_mem' {α : Type} {t : α → α → α → Bool} {xs : List α} {x : α} (h : x ∈ hull t xs) : x ∈ xs := by
  unfold hull at h
  split at h
  · exact h
  · rcases List.mem_append.mp h with k | k
    · exact stack_mem (List.mem_reverse.mp (List.dropLast_subset _ k))
    · exact List.mem_reverse.mp (stack_mem (List.mem_reverse.mp (List.dropLast_subset _ k)))
section
variable {P' : Program} {w : World} {K :
      PySem.W.Frag} {mg : Str → Option Value} {base : Heap}
abbrev n_hull : List Str := ["points", "spots", "scale", "unlike", "k", "spot", "x", "y"]
theorem sc_hull : FnScope n_hull p_points (defScope sHull) := ⟨rfl, rfl, rfl, by decide +kernel, rfl, by decide +kernel, by decide +kernel⟩
theorem dp_pair {H : Hp} {y : V} {p : P} (h : Sp2 H y p) : Dp K H y (tupD [p.1, p.2]) := by
  obtain ⟨t, rfl, h⟩ := h
  exact dp_ints (ns := [p.1, p.2]) (SqT.of h)
set_option
      maxHeartbeats 1000000 in
theorem ok_hull {f : Addr} {fd : FuncData} (F : Fun K "hull_of" "hull_of" sHull f fd) (T : Bl mg) (H_on_scale : Has P' w K mg base "on_scale" p_points 1 (spScale K)) (H_left_bends : Has P' w K mg base "_left_bends" p_spots 2 (spLB K)) (H_place : Has P' w K mg base "place" p_place 1 (spN3 K)) : FnOk P' w K mg base CX0 3 f fd p_points (spHull K) := by
  refine F.ok sc_hull (fun vs H Q E h => ?_) (fun cdv A outer s H vs Q E hr h => ?_)
  · obtain ⟨t, _, _, _, rfl, _⟩ := h
    rfl
  · obtain ⟨t, xs, pts, S, rfl, hS, hA, hB, q⟩ := h
    have hu := hr.units
    refine ⟨_, (pss_cons (ps_asg (pe_has H_on_scale (hr.mono (by decide)) (by rfl) (pa_cons (pv 0) pa_nil)) (pg_tup rfl (pgs_cons (pg_name (i := 1) sc_hull.nd rfl (Or.inr rfl)) (pgs_cons (pg_name (i := 2) sc_hull.nd rfl (Or.inr rfl)) pgs_nil))))
      (pss_cons (ps_set (i := 1) sc_hull.nd rfl (Or.inr rfl) (pe_callB cr_sortedPO (by rfl) T.sorted PyProof.Rows.boot_sorted (pa_cons (pv 1) pa_nil)))
      (pss_mid (ps_setLc (i := 3) (own := [("k", 4), ("spot", 5)]) (g := gPair K 4 5) rfl sc_hull.nd rfl rfl (sw_true rfl rfl rfl (by decide +kernel)) (pi_enum (by rfl) T.enumerate (pa_cons (pv 1) pa_nil)) (blkOk_by (N := n_hull) (sc := defScope sHull) (by decide +kernel)) (fun _ _ _ _ _ => pg_tup rfl (pgs_cons (pg_name (i := 4) sc_hull.nd rfl (Or.inl rfl)) (pgs_cons (pg_name (i := 5) sc_hull.nd rfl (Or.inl rfl)) pgs_nil))) (fun _ _ _ _ _ => pts_one (PW.pt (pw_or (pt_cmpR op_eq (pv 4) pe_int (nomark _)) (pw_or1 (pt_cmpR (neD_K (K := K) rfl hu) (pv 5) (pe_ix (r := rIxL K) ix_list (pv 1) (pe_op op_sub (pv 4) pe_int) (fun _ _ => rfl)) (nomark _)))))) (fun _ _ _ _ _ => (pv 5)))
      (pss_mid (ps_if (pt_cmpR op_gt (pe_callB (r := Ur.rLen K) Ur.len_seq (by rfl) T.len PySem.boot_len (pa_cons (pv 3) pa_nil)) pe_int (nomark _)) (pss_one (ps_set (i := 3) sc_hull.nd rfl (Or.inl rfl) (pe_op op_cat (pe_slice sl_list (pe_has H_left_bends (hr.mono (by decide)) (by rfl) (pa_cons (pv 3) pa_nil)) po_none (po_some (pe_un un_neg pe_int))) (pe_slice sl_list (pe_has H_left_bends (hr.mono (by decide)) (by rfl) (pa_cons (pe_revL (pv 3)) pa_nil)) po_none (po_some (pe_un un_neg pe_int)))))) pss_nil)
      (pss_one (ps_ret (pe_callTy call_tuple_of (by rfl) T.tuple PyProof.Rows.boot_tuple (pa_cons (pe_lc (own := [("x", 6), ("y", 7)]) (g := gPair K 6 7) (tt := tYes) rfl sc_hull.nd (pi_list (pv 3)) (blkOk_by (N := n_hull) (sc := defScope sHull) (by decide +kernel)) (fun _ _ _ _ _ => pg_tup rfl (pgs_cons (pg_name (i := 6) sc_hull.nd rfl (Or.inl rfl)) (pgs_cons (pg_name (i := 7) sc_hull.nd rfl (Or.inl rfl)) pgs_nil))) (fun _ _ _ _ _ => pts_nil) (fun _ _ _ _ _ => (pe_has H_place (hr.mono (by decide)) (by rfl) (pa_cons (pv 6) (pa_cons (pv 7) (pa_cons (pv 2) pa_nil)))))) pa_nil)))))))), ?_⟩
    refine ⟨_, rfl, t, xs, pts, S, rfl, hS, hA, hB, fun H1 r l ys s1 hr1 hl1 hA1 => ?_⟩
    refine ⟨r, _, rfl, hr1, rfl, _, _, rfl, _, _, rfl, rfl, ?_⟩
    have hk1 : ∀ y ∈ ys, Kd2 H1 (kOf H1) y ∧ Bq (kOf H1 y) := fun y hy => by
      obtain ⟨p, hp, hsp⟩ := hA1.mem hy
      have e := kOf_of hsp
      refine ⟨?_, ?_⟩
      · unfold Kd2; rw [e]; exact hsp
      · rw [e]
        obtain ⟨p', hp', rfl⟩ := List.mem_map.mp hp
        exact fsc_bq hB hp'
    have hm1 : ys.map (kOf H1) = pts.map (fsc (scl pts)) := hA1.map fun y p h => kOf_of h
    refine ⟨_, rfl, l, ys, kOf H1, rfl, SqL.of hl1, fun x hx => (hk1 x hx).1, fun zs p hsrt hstb hp => ?_⟩
    have s2 := s1.trans (same_new (p := p) (o := HO.lst zs) hp)
    have hk2 : ∀ z ∈ zs, Kd2 (upd H1 p (.lst zs)) (kOf H1) z ∧ Bq (kOf H1 z) := fun z hz => by
      have := hk1 z (hstb.perm.mem_iff.mp hz)
      exact ⟨this.1.same (same_new hp), this.2⟩
    have hlen : zs.length ≤ 1000 := by
      rw [hstb.len, hA1.len, List.length_map]
      exact hB.few
    have hz2 : (upd H1 p (.lst zs)) p = some (.lst zs) := upd_same
    have hasc : (accF (fOnce (kOf H1) zs) zs zs.length).map (kOf H1) = ascOf (pts.map (fsc (scl pts))) := by
      rw [acc_once _ _ _ (Nat.le_refl _), List.take_length, once_is (sorted_lt hsrt)]
      refine ascOf_eq (ascOf_asc _) fun q => ?_
      rw [ascOf_mem, ← hm1]
      exact (hstb.perm.map _).mem_iff.symm
    generalize upd H1 p (.lst zs) = H2 at s2 hk2 hz2
    generalize kOf H1 = k at hk2 hasc
    obtain ⟨U, hU⟩ : ∃ U, U = accF (fOnce k zs) zs zs.length := ⟨_, rfl⟩
    rw [← hU] at hasc
    have hUm : ∀ z ∈ U, Kd2 H2 k z ∧ Bq (k z) := fun z hz => by
      have : ∀ (i : Nat), ∀ z ∈ accF (fOnce k zs) zs i, z ∈ zs := by
        intro i
        induction i with
        | zero => intro z hz; cases hz
        | succ i ih =>
          intro z hz
          have e : accF (fOnce k zs) zs (i + 1) = if fOnce k zs i then accF (fOnce k zs) zs i ++ (zs[i]?).toList else accF (fOnce k zs) zs i := rfl
          rw [e] at hz
          split at hz
          · rcases List.mem_append.mp hz with q | q
            · exact ih z q
            · rw [Option.mem_toList] at q
              exact List.mem_of_getElem? q
          · exact ih z hz
      exact hk2 z (this _ z (hU ▸ hz))
    have hUl : U.length ≤ 1000 := by
      have := accF_len (fOnce k zs) zs zs.length
      rw [← hU] at this
      omega
    refine ⟨fun σ' H' => ∃ D, σ' = [some (.ref t), some (.ref p), some (.int (scl pts : Nat)), some (.ref D), none, none, none, none] ∧ Same H2 H' ∧ H' D = some (.lst U), ?_, ?_⟩
    · refine lcEf (K := K) (a := p) (xs := zs) (fOnce k zs) (fun R r => ⟨_, rfl, r⟩) (SqL.of hz2) (by omega) (fun _ _ => rfl) (fun i x H3 hi sm Q' q' => ?_) (fun i x H3 Q' q' => ⟨_, rfl, q'⟩) (fun D H' hD sm hy => ⟨D, rfl, sm, hU ▸ hy⟩)
      have gx : zs.getD i .non = x := by rw [List.getD_eq_getElem?_getD, hi]; rfl
      refine ⟨_, rfl,
            rfl, _, rfl, ?_⟩
      have hq := q'
      refine ite2 (fun c
            => ?_) (fun c => ?_)
      · have e : i = 0 := by have := V.int.inj (of_decide_eq_true c); omega
        have e2 : fOnce k zs i = true := by unfold fOnce; rw [decide_eq_true e]; rfl
        have := q' H3 (Same.refl _)
        rw [e2] at this
        exact this
      · have hi0 : i ≠ 0 := fun e => c (decide_eq_true (by rw [e]; rfl))
        obtain ⟨j, rfl⟩ : ∃ j, i = j + 1 := ⟨i - 1, by omega⟩
        have hjl : j + 1 < zs.length := (List.getElem?_eq_some_iff.mp hi).1
        have hj : zs[j]? = some zs[j] := List.getElem?_eq_getElem (by omega)
        have gj : zs.getD (j + 1 - 1) .non = zs[j] := by rw [Nat.add_sub_cancel, List.getD_eq_getElem?_getD, hj]; rfl
        have ej : ((j + 1 : Nat) : Int) - 1 = ((j : Nat) : Int) := by omega
        have d1 := dp_pair (K := K) ((hk2 x (List.mem_of_getElem? hi)).1.same sm)
        have d2 := dp_pair (K := K) ((hk2 zs[j] (List.mem_of_getElem? hj)).1.same sm)
        refine ⟨_, rfl, _, rfl, _, rfl, _, _, rfl, rfl, p, _, _, zs[j], rfl, rfl, sm.seq (SqL.of hz2), by rw [ej]; exact atI_nat hj, _, _, d1, d2, shaped_ints _, shaped_ints _, _, rfl, ?_⟩
        have e2 : fOnce k zs (j + 1) = !PyData.eqv (tupD [(k x).1, (k x).2]) (tupD [(k zs[j]).1, (k zs[j]).2]) := by
          unfold fOnce tupD
          rw [gx, gj, eqv_ints]
          simp only [Nat.add_one_ne_zero, decide_false, Bool.false_or]
          congr 1
          refine decide_eq_decide.mpr ⟨fun h => by rw [h], fun h => ?_⟩
          simp only [List.cons.injEq, and_true] at h
          exact Prod.ext h.1 h.2
        have := q' H3 (Same.refl _)
        rw [e2] at this
        exact this
    · rintro σ' H' ⟨D, rfl, s3, hD⟩
      refine ⟨fun σ' H' => ∃ D, σ' = [some (.ref t), some (.ref p), some (.int (scl pts : Nat)), some (.ref D), none, none, none, none] ∧ Same H2 H' ∧ H' D = some (.lst (hull (tk k) U)), ?_, ?_⟩
      · refine ⟨_, rfl, D, _, rfl, Or.inl (SqL.of hD), _, _, rfl, rfl, _, rfl, ?_⟩
        refine ite2 (fun c
              => ?_) (fun c => ?_)
        · have h2 : ¬ U.length < 2 := by have := of_decide_eq_true c; omega
          have eh : hull (tk k) U = (bends (tk k) U).dropLast ++ (bends (tk k) U.reverse).dropLast := by unfold hull; rw [if_neg h2]
          have bl : ∀ l : List V, (bends (tk k) l).length ≤ l.length := fun l => by
            unfold bends
            rw [List.length_reverse]
            have : (Hull.stack (tk k) l).length ≤ 0 + l.length := stack_len (t := tk k) l []
            omega
          refine ⟨_, rfl, D, U, k, rfl, SqL.of hD, hUl, fun x hx => ⟨(hUm x hx).1.same s3, (hUm x hx).2⟩, fun l1 H4 hl1 s4 h4 => ⟨1, rfl, -1, rfl, l1, _, rfl, SqL.of h4, fun p1 hp1 => ?_⟩⟩
          rw [cut_last]
          have s5 := s4.trans (same_new (p := p1) (o := HO.lst (bends (tk k) U).dropLast) hp1)
          have hp1' : (upd H4 p1 (.lst (bends (tk k) U).dropLast)) p1 = some (.lst (bends (tk k) U).dropLast) := upd_same
          generalize upd H4 p1 (.lst (bends (tk k) U).dropLast) = H5 at s5 hp1'
          refine ⟨_, rfl, D, U, rfl, SqL.of (s5 _ _ hD), fun p2 hp2 => ⟨p2, U.reverse, k, rfl, SqL.of upd_same, by rw [List.length_reverse]; exact hUl, fun x hx => ⟨(hUm x (List.mem_reverse.mp hx)).1.same ((s3.trans s5).trans (same_new hp2)), (hUm x (List.mem_reverse.mp hx)).2⟩, fun l3 H6 hl3 s6 h6 => ⟨1, rfl, -1, rfl, l3, _, rfl, SqL.of h6, fun p4 hp4 => ?_⟩⟩⟩
          rw [cut_last]
          have s7 := ((same_new (p := p2) (o := HO.lst U.reverse) hp2).trans s6).trans (same_new (p := p4) (o := HO.lst (bends (tk k) U.reverse).dropLast) hp4)
          have l1' := bl U
          have l2' := bl U.reverse
          rw [List.length_reverse] at l2'
          refine ⟨_, _, _, _, rfl, rfl, s7 _ _ hp1', upd_same, ?_, fun p5 hp5 => ⟨p5, rfl, (s3.trans s5).trans (s7.trans (same_new hp5)), by rw [upd_same, eh]⟩⟩
          rw [List.length_dropLast, List.length_dropLast]
          exact Nat.le_trans (by omega : _ ≤ 2000) (by decide)
        · have h2 : U.length < 2 := by
            refine Nat.lt_of_not_le fun z => c (decide_eq_true (by omega))
          exact ⟨D, rfl, s3, by rw [hD]; unfold hull; rw [if_pos h2]⟩
      · rintro σ' H' ⟨D, rfl, s3, hD⟩
        have eh : (hull (tk k) U).map k = hl (pts.map (fsc (scl pts))) := by
          rw [← hull_map (t := tk k) (u := gone) (g := k) (fun _ _ _ => rfl), hasc]
          rfl
        have hhm : ∀ z ∈ hull (tk k) U, Kd2 H2 k z ∧ Bq (k z) := fun z hz => hUm z (hull_mem' hz)
        have hhl : (hull (tk k) U).length ≤ 2000 := Nat.le_trans (hull_len' _ _) (by omega)
        obtain ⟨W, hW⟩ : ∃ W, W = hull (tk k) U := ⟨_, rfl⟩
        rw [← hW] at hD eh hhm hhl
        have L0 := hB.scl_pos
        have L1 := hB.scl_le
        have L2 := hB.s1
        unfold tRet tCB tCons tNil
        dsimp only
        refine lcL2 (K := K) (a := D) (xs := W) (fun i => (.int (k (W.getD i .non)).1, .int (k (W.getD i .non)).2)) (fun H' i y => Tp K H' y (thin [(k (W.getD i .non)).1, (k (W.getD i .non)).2, (scl pts : Nat)])) (mono_tp _) (fun R r => ⟨_, rfl, r⟩) (SqL.of hD) (fun i x hi => ?_) (by omega) (fun _ _ => rfl) (fun i x H3 hi sm Q' q' => ?_) (fun D2 ys2 H5 hD2 sm hy e1 e2 => ?_)
        · have gx : W.getD i .non = x := by rw [List.getD_eq_getElem?_getD, hi]; rfl
          rw [gx]
          obtain ⟨t', e, h⟩ := (hhm x (List.mem_of_getElem? hi)).1
          exact ⟨t', e, SqT.of (s3 _ _ h)⟩
        · have gx : W.getD i .non = x := by rw [List.getD_eq_getElem?_getD, hi]; rfl
          have hb := (hhm x (List.mem_of_getElem? hi)).2
          rw [gx] at q' ⊢
          exact ⟨_, rfl, _, rfl, _, rfl, _, _, _, rfl, by omega, w2_100 hb.x, w2_100 hb.y, w2_100 (Nat.lt_trans (by omega : _ < 2 ^ 60) (by decide)), fun p H' s' tp => q' p H' tp s'⟩
        · refine ⟨D2, ys2, rfl, Or.inl ⟨SqL.of hy, fun l3 hl3 => q _ l3 ys2 (((s2.trans s3).trans sm).trans (same_new hl3)) (SqT.of upd_same) ⟨?_, fun i y p hi hp => ?_⟩⟩⟩
          · unfold hullOf
            rw [e1, List.length_map, ← eh, List.length_map]
          · have h1 := e2 i y hi
            have hi2 : i < W.length := by
              rw [← e1]
              exact (List.getElem?_eq_some_iff.mp hi).1
            have gx : W.getD i .non = W[i] := by rw [List.getD_eq_getElem?_getD, List.getElem?_eq_getElem hi2]; rfl
            have e : p = thin [(k (W.getD i .non)).1, (k (W.getD i .non)).2, (scl pts : Nat)] := by
              unfold hullOf at hp
              rw [← eh, List.map_map, List.getElem?_map, List.getElem?_eq_getElem hi2] at hp
              rw [gx]
              exact (Option.some.inj hp).symm
            rw [e]
            exact h1.same (same_new hl3)
/-! ### sections -/
/-- a row of points is the row of corners of its own hull -/
structure Pol (pts : List (List Int)) (S : Nat) : Prop where
  scb : Scb pts S
  self : hullOf pts = pts
theorem al_data {H : Hp} : ∀ {ys : List V} {pts : List (List Int)}, Al (Tp K H) ys pts → DpAll K H ys (pts.map tupD)
  | [], [], _ => .nil
  | [], _ :: _, h => absurd h.len (by simp)
  | _ :: _, [], h => absurd h.len (by simp)
  | y :: ys, p :: pts, h => .cons (h.at_ 0 y p rfl rfl).dp (al_data ⟨by have := h.len; simpa using this, fun i y' p' a b => h.at_ (i + 1) y' p' a b⟩)
theorem lay_tups : ∀ pts : List (List Int), PyData.canLayAll0 (pts.map tupD) = true
  | [] => rfl
  | p :: r => by
    show (PyData.canLayAll0 (p.map PyData.int) && PyData.canLayAll0 (r.map tupD)) = true
    rw [lay_ints, lay_tups r]
    rfl
theorem depth_tups : ∀ pts : List (List Int), PyData.depthAll (pts.map tupD) ≤ 1
  | [] => Nat.zero_le _
  | p :: r => by
    show max (PyData.depthAll (p.map PyData.int) + 1) (PyData.depthAll (r.map tupD)) ≤ 1
    have := depth_ints p
    have := depth_tups r
    omega
theorem shaped_tups (pts : List (List Int)) : SeqAt.shaped (.tuple (pts.map tupD)) = true := by
  unfold SeqAt.shaped
  show (PyData.canLayAll0 (pts.map tupD) && decide (PyData.depthAll (pts.map tupD) + 1 ≤ 64)) = true
  have := depth_tups pts
  rw [lay_tups, decide_eq_true (by omega)]
  rfl
theorem eqvAll_refl : ∀ pts : List (List Int), PyData.eqvAll (pts.map tupD) (pts.map tupD) = true
  | [] => rfl
  | p :: r => by
    have e : PyData.eqv (tupD p) (tupD p) = decide (p = p) := eqv_ints p p
    show (PyData.eqv (tupD p) (tupD p) && PyData.eqvAll (r.map tupD) (r.map tupD)) = true
    rw [e, eqvAll_refl r, decide_eq_true rfl]
    rfl
abbrev n_polyF : List Str := ["value", "corner"]
theorem sc_polyF : FnScope n_polyF n_value (defScope sPolyF) := ⟨rfl, rfl, rfl, by decide +kernel, rfl, by decide +kernel, by decide +kernel⟩
def spPoly (K : PySem.W.Frag) : Sp := fun vs H Q _ => ∃ (t : Addr) (xs : List V) (pts : List (List Int)) (S : Nat), vs = [.ref t] ∧ SqT K H t xs ∧ Al (Tp K H) xs pts ∧ Pol pts S ∧ 0 < pts.length ∧ ∀ H', Same H H' → Q (.bl true) H'
theorem pt_told {p : List Int} {n : Nat} (h : Pt3 n p) : isPt (p.map V.int) = true := by
  obtain ⟨x, y, w, A⟩ := h
  have e := A.eq
  subst e
  show (decide (0 < w) && decide (Nat.gcd (Nat.gcd x.natAbs y.natAbs) w.natAbs = 1)) = true
  rw [decide_eq_true A.pos, decide_eq_true A.red]
  rfl
theorem pt_arg {H : Hp} {t : Addr} {p : List Int} (h : SqT K H t (p.map V.int)) (hp : Pt3 100 p) : Arg K H (.ref t) .tup (p.map V.int) := by
  obtain ⟨x, y, w, A⟩ := hp
  have e := A.eq
  subst e
  have b : ∀ {z : Int}, z.natAbs ≤ 100 → z.natAbs < 2 ^ 9000 := fun h => Nat.lt_of_le_of_lt h (Nat.lt_of_lt_of_le (by decide : 100 < 2 ^ 7) (Nat.pow_le_pow_right (by decide) (by decide)))
  refine arg_ints h (by simp) fun n hn => ?_
  simp only [List.mem_cons, List.not_mem_nil, or_false] at hn
  rcases hn with rfl | rfl | rfl
  · exact b A.bx
  · exact b A.bby
  · exact b A.bw
theorem ok_polyF {f : Addr} {fd : FuncData} (F : Fun K "polygon_fits" "polygon_fits" sPolyF f fd) (T : Bl mg) (H_point_fits : Has P' w K mg base "point_fits" n_value 3 (spTold K isPt)) (H_hull_of : Has P' w K mg base "hull_of" p_points 3 (spHull K)) : FnOk P' w K mg base CX0 4 f fd n_value (spPoly K) := by
  refine F.ok sc_polyF (fun vs H Q E h => ?_) (fun cdv A outer s H vs Q E hr h => ?_)
  · obtain ⟨t, _, _, _, rfl, _⟩ := h
    rfl
  · obtain ⟨t, xs, pts, S, rfl, hS, hA, hP, h0, q⟩ := h
    have hu := hr.units
    have hfew := hP.scb.few
    refine ⟨_, (pss_cons (ps_if (PW.pt (pw_or (pt_not (pt_val (pe_callB call_isi (by rfl) T.isinstance PyProof.Rows.boot_isinstance (pa_cons (pv 0) (pa_cons (pe_bltn (v := .ty "tuple") (by rfl) T.tuple PyProof.Rows.boot_tuple rfl) pa_nil))))) (pw_or1 (pt_not (pt_truth (pv 0) (fun _ => rfl)))))) (pss_one (ps_ret pe_bl)) pss_nil)
      (pss_one (ps_ret (pe_and (pe_callB (cr_all rfl) (by rfl) T.all PyProof.Rows.boot_all (pa_cons (pe_lc (own := [("corner", 1)]) (g := gName 1) (tt := tYes) rfl sc_polyF.nd (pi_tup (pv 0)) (blkOk_by (N := n_polyF) (sc := defScope sPolyF) (by decide +kernel)) (fun _ _ _ _ _ => pg_name (i := 1) sc_polyF.nd rfl (Or.inl rfl)) (fun _ _ _ _ _ => pts_nil) (fun _ _ _ _ _ => (pe_has H_point_fits (hr.mono (by decide)) (by rfl) (pa_cons (pv 1) pa_nil)))) pa_nil)) (pe_one (pe_cmpR (eqD_K (K := K) rfl hu) (pe_has H_hull_of (hr.mono (by decide)) (by rfl) (pa_cons (pv 0) pa_nil)) (pv 0) (nomark _))))))), ?_⟩
    refine ⟨_, rfl, _, _, _, _, _, rfl, .ty "tuple", tup_kd hS, kit_ty (kd_tup .tup), _, rfl, ?_⟩
    refine iteF ?_
    refine ⟨_, rfl, !xs.isEmpty, Or.inr (Or.inl ⟨_, hS, rfl⟩), ?_⟩
    have ne : xs.isEmpty = false := by
      cases xs with
      | nil => exact absurd hA.len (by rw [List.length_nil]; omega)
      | cons x r => rfl
    rw [ne]
    refine iteF ?_
    have hlen : xs.length ≤ 1000 := by rw [hA.len]; exact hfew
    unfold tNext tRet tAndV tCB tCons tNil
    dsimp only
    refine lcT (K := K) (a := t) (xs := xs) (fun _ y => y = .bl true) (fun R r => ⟨_, rfl, r⟩) hS (by omega) (fun _ => rfl) (fun i x H3 hi sm Q' q' => ?_) (fun D ys H2 hD sm hy e1 e2 => ?_)
    · obtain ⟨p, hp, ⟨tp, rfl, sp⟩⟩ := hA.get hi
      have hp3 := hP.scb.ok p (List.mem_of_getElem? hp)
      refine ⟨_, rfl, _, .tup, _, rfl, (pt_arg sp hp3).same sm, fun H4 s4 => q' _ _ ?_ s4⟩
      rw [pt_told hp3]
      rfl
    · have ey : ys = (List.replicate ys.length true).map V.bl := by
        apply List.ext_getElem?
        intro i
        rw [List.getElem?_map]
        cases h : ys[i]? with
        | none =>
          rw [List.getElem?_eq_none (by rw [List.length_replicate]; exact List.getElem?_eq_none_iff.mp h)]
          rfl
        | some y =>
          have hl := (List.getElem?_eq_some_iff.mp h).1
          rw [e2 i y h, List.getElem?_replicate, if_pos hl]
          rfl
      rw [ey] at hy
      refine ⟨D, _, rfl, SqL.of hy, _, rfl, ?_⟩
      have ea : (List.replicate ys.length true).all id = true := by simp
      rw [ea]
      refine iteT ?_
      refine ⟨_, rfl, t, xs, pts, S, rfl, same_sqT sm hS, hA.mono (fun y p h => h.same sm), hP.scb, fun H3 r zs s3 hr3 hA3 => ?_⟩
      rw [hP.self] at hA3
      refine ⟨_, rfl, _, _, .tup hr3 (al_data hA3), .tup (same_sqT (sm.trans s3) hS) (al_data (hA.mono fun y p h => h.same (sm.trans s3))), shaped_tups _, shaped_tups _, ?_⟩
      have e9 : PyData.eqv (.tuple (pts.map tupD)) (.tuple (pts.map tupD)) = true := eqvAll_refl pts
      rw [e9]
      exact q H3 (sm.trans s3)
theorem sc_secF : FnScope n_value n_value (defScope sSecF) := ⟨rfl, rfl, rfl, by decide +kernel, rfl, by decide +kernel, by decide +kernel⟩
/-- a section's corners -/
structure Sec (pts : List (List Int)) (S : Nat) : Prop where
  pol : Pol pts S
  three : 3 ≤ pts.length
  eight : pts.length ≤ 8
def spSec (K : PySem.W.Frag) (r : V) : Sp := fun vs H Q _ => ∃ (t : Addr) (xs : List V) (pts : List (List Int)) (S : Nat), vs = [.ref t] ∧ SqT K H t xs ∧ Al (Tp K H) xs pts ∧ Sec pts S ∧ ∀ H', Same H H' → Q r H'
theorem ok_secF {f : Addr} {fd : FuncData} (F : Fun K "section_fits" "section_fits" sSecF f fd) (T : Bl mg) (H_polygon_fits : Has P' w K mg base "polygon_fits" n_value 4 (spPoly K)) : FnOk P' w K mg base CX0 5 f fd n_value (spSec K (.bl true)) := by
  refine F.ok sc_secF (fun vs H Q E h => ?_) (fun cdv A outer s H vs Q E hr h => ?_)
  · obtain ⟨t, _, _, _, rfl, _⟩ := h
    rfl
  · obtain ⟨t, xs, pts, S, rfl, hS, hA, hP, q⟩ := h
    refine ⟨_, (pss_one (ps_ret (pe_and (pe_callB call_isi (by rfl) T.isinstance PyProof.Rows.boot_isinstance (pa_cons (pv 0) (pa_cons (pe_bltn (v := .ty "tuple") (by rfl) T.tuple PyProof.Rows.boot_tuple rfl) pa_nil))) (pe_and (pe_chain op_le op_le pe_int (pe_callB (r := Ur.rLen K) Ur.len_seq (by rfl) T.len PySem.boot_len (pa_cons (pv 0) pa_nil)) pe_int) (pe_one (pe_has H_polygon_fits (hr.mono (by decide)) (by rfl) (pa_cons (pv 0) pa_nil))))))), ?_⟩
    have h3 := hP.three
    have h8 := hP.eight
    have hl := hA.len
    refine ⟨_, rfl, _, _, _, _, _, rfl, .ty "tuple", tup_kd hS, kit_ty (kd_tup .tup), _, rfl, ?_⟩
    refine iteT ?_
    refine ⟨_, rfl, t, _, rfl, Or.inr hS, _, _, rfl, rfl, _, rfl, ?_⟩
    refine ite2 (fun _ => ?_) (fun c => absurd (decide_eq_true (by omega)) c)
    refine ⟨_, _, rfl, rfl, _, rfl, ?_⟩
    refine ite2 (fun _ => ?_) (fun c => absurd (decide_eq_true (by omega)) c)
    exact ⟨_, rfl, t, xs, pts, S, rfl, hS, hA, hP.pol, by omega, q⟩
theorem sc_chkS : FnScope n_value n_value (defScope sChkS) := ⟨rfl, rfl, rfl, by decide +kernel, rfl, by decide +kernel, by decide +kernel⟩
theorem ok_chkS {f : Addr} {fd : FuncData} (F : Fun K "check_section" "check_section" sChkS f fd) (H_section_fits : Has P' w K mg base "section_fits" n_value 5 (spSec K (.bl true))) : FnOk P' w K mg base CX0 6 f fd n_value (spSec K .non) := by
  refine F.ok sc_chkS (fun vs H Q E h => ?_) (fun cdv A outer s H vs Q E hr h => ?_)
  · obtain ⟨t, _, _, _, rfl, _⟩ := h
    rfl
  · obtain ⟨t, xs, pts, S, rfl, hS, hA, hP, q⟩ := h
    refine ⟨_, (pss_one (ps_if (pt_not (pt_val (pe_has H_section_fits (hr.mono (by decide)) (by rfl) (pa_cons (pv 0) pa_nil)))) (pss_one ps_never) pss_nil)), ?_⟩
    refine ⟨_, rfl, t, xs, pts, S, rfl, hS, hA, hP, fun H1 s1 => ⟨_, rfl, ?_⟩⟩
    exact iteF (q H1 s1)
end
end K8

namespace K8
open PySem L2 Ur Hull
abbrev sLoHi : Stmt := top 32
abbrev sHOf : Stmt := top 34
abbrev sHts : Stmt := top 35
/-! ### least and greatest of fractions -/
def Fr (n : Nat) (a : List Int) : Prop := ∃ t e, FrL n a t e
def lowF (l a : List Int) : List Int := if ordL a l < 0 then a else l
def highF (h a : List Int) : List Int := if ordL h a < 0 then a else h
theorem lowF_fr {n : Nat} {l a : List Int} (hl : Fr n l) (ha : Fr n a) : Fr n (lowF l a) := by unfold lowF; split; exact ha; exact hl
theorem highF_fr {n : Nat} {l a : List Int} (hl : Fr n l) (ha : Fr n a) : Fr n (highF l a) := by unfold highF; split; exact ha; exact hl
abbrev htF (c s : Int) (p : List Int) : List Int := innL [c, s, 1] p
/-- a bound for heights -/
def WH : Nat := 2 ^ 1500
theorem wh_le : WH ≤ W2 := by unfold WH W2; exact Nat.pow_le_pow_right (by decide) (by decide)
theorem ht_fr {n m : Nat} {u p : List Int} {c s x y w : Int} (A : DrL n u c s) (B : PtL m p x y w) (h1 : 1 ≤ n) (hn : n ≤ 100) (hm : m ≤ WB) : Fr WH (htF c s p) := by
  obtain ⟨g, t, e, _, _, _, F⟩ := fr_inn (A.pt h1) B
  have hb : n * m + n * m ≤ WH := by
    have h2 : n * m ≤ 100 * WB := Nat.mul_le_mul hn hm
    have h3 : 100 * WB + 100 * WB ≤ 2 ^ 8 * 2 ^ 1000 := by
      unfold WB
      generalize 2 ^ 1000 = z
      omega
    have h4 : 2 ^ 8 * 2 ^ 1000 ≤ WH := by
      rw [← Nat.pow_add]
      unfold WH
      exact Nat.pow_le_pow_right (by decide) (by decide)
    omega
  exact ⟨t, e, F.eq, F.pos, F.red, Nat.le_trans F.bt hb, Nat.le_trans F.bb hb⟩
theorem cut_tail (xs : List V) : cutV xs (some 1) none = xs.drop 1 := by
  unfold cutV
  have e1 : HT.sIx xs.length 0 (some 1) = min 1 xs.length := HT.sIx_nat xs.length 0 1
  have e2 : HT.sIx xs.length xs.length none = xs.length := rfl
  rw [e1, e2]
  have e3 : xs.drop (min 1 xs.length) = xs.drop 1 := by
    cases xs with
    | nil => rfl
    | cons x r =>
      have : min 1 (x :: r).length = 1 := by simp only [List.length_cons]; omega
      rw [this]
  rw [e3, List.take_of_length_le]
  rw [List.length_drop]
  omega
/-- a section as a value -/
structure SecV (K : PySem.W.Frag) (H : Hp) (v : V) (xs : List V) (pts : List (List Int)) (S : Nat) : Prop where
  ref : ∃ t, v = .ref t ∧ SqT K H t xs
  al : Al (Tp K H) xs pts
  sec : Sec pts S
theorem SecV.same {K : PySem.W.Frag} {H H' : Hp} {v : V} {xs : List V} {pts : List (List Int)} {S : Nat} (s : Same H H') (h : SecV K H v xs pts S) : SecV K H' v xs pts S :=
  ⟨let ⟨t, e, q⟩ := h.ref; ⟨t, e, same_sqT s q⟩, h.al.mono fun y p q => q.same s, h.sec⟩
def loOf (hs : List (List Int)) : List Int := match hs with | [] => [] | h :: r => r.foldl lowF h
def hiOf (hs : List (List Int)) : List Int := match hs with | [] => [] | h :: r => r.foldl highF h
def spHts (K : PySem.W.Frag) : Sp := fun vs H Q _ => ∃ (v u : V) (xs : List V) (pts : List (List Int)) (S n : Nat) (a : List Int) (c s : Int), vs = [v, u] ∧ SecV K H v xs pts S ∧ Tp K H u a ∧ DrL n a c s ∧ 1 ≤ n ∧ n ≤ 100 ∧
  ∀ (H' : Hp) (r : Addr) (x y : V), Same H H' → SqT K H' r [x, y] → Tp K H' x (loOf (pts.map (htF c s))) → Tp K H' y (hiOf (pts.map (htF c s))) → Q (.ref r) H'
section
variable {P' : Program} {w : World} {K :
      PySem.W.Frag} {mg : Str → Option Value} {base : Heap}
theorem n100 {n : Nat} (h : n ≤ 100) : n ≤ WB := Nat.le_trans h (le_wb (k := 7) (by decide) (by decide))
abbrev n_lohi : List Str := ["section", "up", "low", "high", "corner", "at"]
abbrev p_su : List Str := ["section", "up"]
theorem sc_lohi : FnScope n_lohi p_su (defScope sLoHi) := ⟨rfl, rfl, rfl, by decide +kernel, rfl, by decide +kernel, by decide +kernel⟩
theorem ok_lohi {f : Addr} {fd : FuncData} (F : Fun K "lowest_and_highest" "lowest_and_highest" sLoHi f fd) (H_height_along : Has P' w K mg base "height_along" p_up 3 (spUp K)) (H_order : Has P' w K mg base "order" p_oo 2 (spOrd K)) : FnOk P' w K mg base CX0 4 f fd p_su (spHts K) := by
  refine F.ok sc_lohi (fun vs H Q E h => ?_) (fun cdv A outer s H vs Q E hr h => ?_)
  · obtain ⟨_, _, _, _, _, _, _, _, _, rfl, _⟩ := h
    rfl
  · obtain ⟨v, u, xs, pts, S, n, a, c, s', rfl, ⟨⟨t, rfl, hS⟩, hA, hP⟩, hu, D, h1, hn, q⟩ := h
    have h3 := hP.three
    have h8 := hP.eight
    have hl := hA.len
    refine ⟨_, (pss_cons (ps_asg2 (pe_has H_height_along (hr.mono (by decide)) (by rfl) (pa_cons (pv 1) (pa_cons (pe_ix (r := rIxT K) ix_tup (pv 0) pe_int (fun _ _ => rfl)) pa_nil))) (pg_name (i := 2) sc_lohi.nd rfl (Or.inl rfl)) (pg_name (i := 3) sc_lohi.nd rfl (Or.inl rfl)))
      (pss_cons (ps_for PassesOwn.never rfl (pi_tup (pe_slice sl_tupA (pv 0) (po_some pe_int) po_none)) (pg_name (i := 4) sc_lohi.nd rfl (Or.inl rfl)) (pss_cons (ps_set (i := 5) sc_lohi.nd rfl (Or.inl rfl) (pe_has H_height_along (hr.mono (by decide)) (by rfl) (pa_cons (pv 1) (pa_cons (pv 4) pa_nil))))
      (pss_cons (ps_set (i := 2) sc_lohi.nd rfl (Or.inl rfl) (pe_ifExp (pt_cmpR op_lt (pe_has H_order (hr.mono (by decide)) (by rfl) (pa_cons (pv 5) (pa_cons (pv 2) pa_nil))) pe_int (nomark _)) (pv 5) (pv 2)))
      (pss_one (ps_set (i := 3) sc_lohi.nd rfl (Or.inl rfl) (pe_ifExp (pt_cmpR op_lt (pe_has H_order (hr.mono (by decide)) (by rfl) (pa_cons (pv 3) (pa_cons (pv 5) pa_nil))) pe_int (nomark _)) (pv 5) (pv 3)))))))
      (pss_one (ps_ret (pe_tup (pa_cons (pv 2) (pa_cons (pv 3) pa_nil))))))), ?_⟩
    obtain ⟨x0, xr, rfl⟩ : ∃ x r, xs = x :: r := by
      cases xs with
      | nil => rw [List.length_nil] at hl; omega
      | cons x r =>
            exact ⟨x, r, rfl⟩
    obtain ⟨p0, pr, rfl⟩ : ∃ x r, pts = x :: r := by
      cases pts with
      | nil => rw [List.length_nil] at h3; omega
      | cons x r =>
            exact ⟨x, r, rfl⟩
    have hp0 := hA.at_ 0 x0 p0 rfl rfl
    obtain ⟨X0, Y0, W0, A0⟩ := hP.pol.scb.ok p0 List.mem_cons_self
    have hfr : ∀ p ∈ p0 :: pr, Fr WH (htF c s' p) := fun p hp => by
      obtain ⟨X, Y, W, A⟩ := hP.pol.scb.ok p hp
      exact ht_fr D A h1 hn (n100 (Nat.le_refl _))
    refine ⟨_, rfl, _, rfl, t, _, 0, x0, rfl, rfl, hS, atI_nat (j := 0) rfl, u, x0, a, p0, c, s', X0, Y0, W0, n, 100, rfl, hu, hp0, D, A0, h1, n100 hn, n100 (Nat.le_refl _), fun vl H1 s1 t1 => ?_⟩
    refine ⟨_, rfl, 1, rfl, t, _, rfl, same_sqT s1 hS, fun z => ?_, fun _ p hp => ?_⟩
    · exfalso
      have := z.1
      have e1 : HT.sIx (x0 :: xr).length 0 (some 1) = min 1 (x0 :: xr).length := HT.sIx_nat _ 0 1
      rw [e1] at this
      simp only
            [List.length_cons] at this
      omega
    · rw [cut_tail]
      have s2 := s1.trans (same_new (p := p) (o := HO.tup ((x0 :: xr).drop 1)) hp)
      refine ⟨p, rfl, ⟨_, SqT.of upd_same⟩, for_tup (K := K) (a := p) (xs := xr) (fun i σ H' => ∃ (vl vh : V) (o1 o2 : Option V), σ = [some (.ref t), some u, some vl, some vh, o1, o2] ∧ Same (upd H1 p (.tup xr)) H' ∧
          Tp K H' vl (((pr.take i).map (htF c s')).foldl lowF (htF c s' p0)) ∧ Tp K H' vh (((pr.take i).map (htF c s')).foldl highF (htF c s' p0)) ∧ Fr WH (((pr.take i).map (htF c s')).foldl lowF (htF c s' p0)) ∧ Fr WH (((pr.take i).map (htF c s')).foldl highF (htF c s' p0)))
        ⟨vl, vl, none, none, rfl, Same.refl _, t1.same (same_new hp), t1.same (same_new hp), hfr p0 List.mem_cons_self, hfr p0 List.mem_cons_self⟩ (fun i σ H' _ ⟨_, _, _, _, _, sm, _⟩ => same_sqT sm (SqT.of upd_same)) ?_ ?_⟩
      · rintro i x σ H' hi ⟨vl, vh, o1, o2, rfl, sm, tl, th, fl, fh⟩
        obtain ⟨pi, hpi, hxi⟩ := (⟨by simpa using hl, fun j y q a b => hA.at_ (j + 1) y q a b⟩ : Al (Tp K H) xr pr).get hi
        have hmem : pi ∈ p0 :: pr := List.mem_cons_of_mem _ (List.mem_of_getElem? hpi)
        obtain ⟨X, Y, W, A⟩ := hP.pol.scb.ok pi hmem
        have s3 := s2.trans sm
        have fp := hfr pi hmem
        have etk : (pr.take (i + 1)).map (htF c s') = (pr.take i).map (htF c s') ++ [htF c s' pi] := by rw [take_next hpi, List.map_append]; rfl
        refine ⟨_, rfl, _, rfl, u, x, a, pi, c, s', X, Y, W, n, 100, rfl, hu.same s3, hxi.same s3, D, A, h1, n100 hn, n100 (Nat.le_refl _), fun va H2 s4 t4 => ?_⟩
        obtain ⟨tl1, el1, FL⟩ := fl
        obtain ⟨th1, eh1, FH⟩ := fh
        obtain ⟨tp1, ep1, FP⟩ := fp
        refine ⟨_, rfl, _, rfl, va, vl, _, _, tp1, ep1, tl1, el1, WH, WH, rfl, t4, tl.same s4, FP, FL, wh_le, wh_le, _, _, rfl, rfl, _, rfl, ?_⟩
        rw [etk, List.foldl_append, List.foldl_append]
        have fin : ∀ vl' : V, Tp K H2 vl' (lowF (((pr.take i).map (htF c s')).foldl lowF (htF c s' p0)) (htF c s' pi)) → ∀ vh' : V, Tp K H2 vh' (highF (((pr.take i).map (htF c s')).foldl highF (htF c s' p0)) (htF c s' pi)) →
            ∃ (vl vh : V) (o1 o2 : Option V), [some (V.ref t), some u, some vl', some vh', some x, some va] = [some (.ref t), some u, some vl, some vh, o1, o2] ∧ Same (upd H1 p (.tup xr)) H2 ∧
            Tp K H2 vl ([htF c s' pi].foldl lowF (((pr.take i).map (htF c s')).foldl lowF (htF c s' p0))) ∧ Tp K H2 vh ([htF c s' pi].foldl highF (((pr.take i).map (htF c s')).foldl highF (htF c s' p0))) ∧ Fr WH ([htF c s' pi].foldl lowF (((pr.take i).map (htF c s')).foldl lowF (htF c s' p0))) ∧ Fr WH ([htF c s' pi].foldl highF (((pr.take i).map (htF c s')).foldl highF (htF c s' p0))) :=
          fun vl' h1' vh' h2' => ⟨vl', vh', _, _, rfl, sm.trans s4, h1', h2', lowF_fr ⟨_, _, FL⟩ ⟨_, _, FP⟩, highF_fr ⟨_, _, FH⟩ ⟨_, _, FP⟩⟩
        have lowY : ∀ {l a : List Int}, decide (ordL a l < 0) = true → lowF l a = a := fun e => if_pos (of_decide_eq_true e)
        have lowN : ∀ {l a : List Int}, ¬ decide (ordL a l < 0) = true → lowF l a = l := fun e => if_neg (fun z => e (decide_eq_true z))
        have highY : ∀ {l a : List Int}, decide (ordL l a < 0) = true → highF l a = a := fun e => if_pos (of_decide_eq_true e)
        have highN : ∀ {l a : List Int}, ¬ decide (ordL l a < 0) = true → highF l a = l := fun e => if_neg (fun z => e (decide_eq_true z))
        refine ite2 (fun d => ?_) (fun d => ?_)
        · refine ⟨_, rfl, _, rfl, _, rfl, vh, va, _, _, th1, eh1, tp1, ep1, WH, WH, rfl, th.same s4, t4, FH, FP, wh_le, wh_le, _, _, rfl, rfl, _, rfl, ?_⟩
          refine ite2 (fun d2 => ?_) (fun d2 => ?_)
          · exact ⟨_, rfl, fin va (by rw [lowY d]; exact t4) va (by rw [highY d2]; exact t4)⟩
          · exact ⟨_, rfl, fin va (by rw [lowY d]; exact t4) vh (by rw [highN d2]; exact th.same s4)⟩
        · refine ⟨_, rfl, _, rfl, _, rfl, vh, va, _, _, th1, eh1, tp1, ep1, WH, WH, rfl, th.same s4, t4, FH, FP, wh_le, wh_le, _, _, rfl, rfl, _, rfl, ?_⟩
          refine ite2 (fun d2 => ?_) (fun d2 => ?_)
          · exact ⟨_, rfl, fin vl (by rw [lowN d]; exact tl.same s4) va (by rw [highY d2]; exact t4)⟩
          · exact ⟨_, rfl, fin vl (by rw [lowN d]; exact tl.same s4) vh (by rw [highN d2]; exact th.same s4)⟩
      · rintro σ H' ⟨vl, vh, o1, o2, rfl, sm, tl, th, fl, fh⟩
        have ep : pr.take xr.length = pr := by
          have : xr.length = pr.length := by simpa using hl
          rw [this, List.take_length]
        rw [ep] at tl th
        refine ⟨_, rfl, _, rfl, by show 2 ≤ sizeLine; decide, fun r hr => q _ r vl vh ((s2.trans sm).trans (same_new hr)) (SqT.of upd_same) (tl.same (same_new hr)) (th.same (same_new hr))⟩
def spHOf (K : PySem.W.Frag) : Sp := spUp K
theorem sc_hof : FnScope p_up p_up (defScope sHOf) := ⟨rfl, rfl, rfl, by decide +kernel, rfl, by decide +kernel, by decide +kernel⟩
theorem ok_hof {f : Addr} {fd : FuncData} (F : Fun K "height_of" "height_of" sHOf f fd) (H_check_direction : Has P' w K mg base "check_direction" n_value 4 (spChkD K)) (H_check_point : Has P' w K mg base "check_point" n_value 4 (spChkP K)) (H_height_along : Has P' w K mg base "height_along" p_up 3 (spUp K)) : FnOk P' w K mg base CX0 5 f fd p_up (spUp K) := by
  refine F.ok sc_hof (fun vs H Q E h => ?_) (fun cdv A outer s H vs Q E hr h => ?_)
  · obtain ⟨_, _, _, _, _, _, _, _, _, _, _, rfl, _⟩ := h
    rfl
  · obtain ⟨va, vb, a, b, c, s', x, y, w, n, m, rfl, ta, tb, PA, PB, h1, hn, hm, q⟩ := h
    refine ⟨_, (pss_cons (ps_expr (pe_has H_check_direction (hr.mono (by decide)) (by rfl) (pa_cons (pv 0) pa_nil)))
      (pss_cons (ps_expr (pe_has H_check_point (hr.mono (by decide)) (by rfl) (pa_cons (pv 1) pa_nil)))
      (pss_one (ps_ret (pe_has H_height_along (hr.mono (by decide)) (by rfl) (pa_cons (pv 0) (pa_cons (pv 1) pa_nil))))))), ?_⟩
    exact ⟨_, rfl, va, a, c, s', n, rfl, ta, PA, hn, fun H1 s1 => ⟨_, rfl, vb, b, x, y, w, m, rfl, tb.same s1, PB, hm, fun H2 s2 => ⟨_, rfl, _, rfl, va, vb, a, b, c, s', x, y, w, n, m, rfl, ta.same (s1.trans s2), tb.same (s1.trans s2), PA, PB, h1, hn, hm, fun p H3 s3 t3 => q p H3 ((s1.trans s2).trans s3) t3⟩⟩⟩
theorem sc_hts : FnScope p_su p_su (defScope sHts) := ⟨rfl, rfl, rfl, by decide +kernel, rfl, by decide +kernel, by decide +kernel⟩
theorem ok_hts {f : Addr} {fd : FuncData} (F : Fun K "heights" "heights" sHts f fd) (H_check_section : Has P' w K mg base "check_section" n_value 6 (spSec K .non)) (H_check_direction : Has P' w K mg base "check_direction" n_value 4 (spChkD K)) (H_lowest_and_highest : Has P' w K mg base "lowest_and_highest" p_su 4 (spHts K)) : FnOk P' w K mg base CX0 7 f fd p_su (spHts K) := by
  refine F.ok sc_hts (fun vs H Q E h => ?_) (fun cdv A outer s H vs Q E hr h => ?_)
  · obtain ⟨_, _, _, _, _, _, _, _, _, rfl, _⟩ := h
    rfl
  · obtain ⟨v, u, xs, pts, S, n, a, c, s', rfl, hV, hu, D, h1, hn, q⟩ := h
    have hV0 := hV
    obtain ⟨⟨t, rfl, hS⟩, hA, hP⟩ := hV
    refine ⟨_, (pss_cons (ps_expr (pe_has H_check_section (hr.mono (by decide)) (by rfl) (pa_cons (pv 0) pa_nil)))
      (pss_cons (ps_expr (pe_has H_check_direction (hr.mono (by decide)) (by rfl) (pa_cons (pv 1) pa_nil)))
      (pss_one (ps_ret (pe_has H_lowest_and_highest (hr.mono (by decide)) (by rfl) (pa_cons (pv 0) (pa_cons (pv 1) pa_nil))))))), ?_⟩
    exact ⟨_, rfl, t, xs, pts, S, rfl, hS, hA, hP, fun H1 s1 => ⟨_, rfl, u, a, c, s', n, rfl, hu.same s1, D, n100 hn, fun H2 s2 => ⟨_, rfl, _, rfl, _, u, xs, pts, S, n, a, c, s', rfl, hV0.same (s1.trans s2), hu.same (s1.trans s2), D, h1, hn, fun H3 r x y s3 hr3 tx ty => q H3 r x y ((s1.trans s2).trans s3) hr3 tx ty⟩⟩⟩
end
end K8

namespace K8
open PySem L2 Ur Hull
abbrev sLSorted : Stmt := top 56
abbrev sLHull : Stmt := top 57
/-! ### points and whole numbers -/
/-- a point whose last number divides L -/
structure Pk (L : Nat) (p : List Int) : Prop where
  pt : Pt3 100 p
  dv : w3 p ∣ L
theorem pk_form {L : Nat} (hL : 0 < L) {p : List Int} (h : Pk L p) : ∃ x y w k : Int, PtL 100 p x y w ∧ 0 < k ∧ (L : Int) = w * k ∧ fsc L p = (x * k, y * k) := by
  obtain ⟨x, y, w, A⟩ := h.pt
  have hd := h.dv
  have e := A.eq
  subst e
  have w0 := A.pos
  obtain ⟨k, hk⟩ := hd
  have hw : ((w3 [x, y, w] : Nat) : Int) = w := by
    show ((w.natAbs : Nat) : Int) = w
    omega
  have hLk : (L : Int) = w * k := by rw [hk, Int.natCast_mul, hw]
  have k0 : 0 < (k : Int) := by
    rcases Nat.eq_zero_or_pos k with z | z
    · subst z; simp at hk; omega
    · omega
  refine ⟨x, y, w, k, A, k0, hLk, ?_⟩
  show (x * ((L : Int) / w), y * ((L : Int) / w)) = (x * k, y * k)
  rw [hLk, Int.mul_ediv_cancel_left _ (by omega)]
/-- back from whole numbers -/
theorem pk_back {L : Nat} (hL : 0 < L) {p : List Int} (h : Pk L p) : thin [(fsc L p).1, (fsc L p).2, (L : Nat)] = p := by
  obtain ⟨x, y, w, k, A, k0, hLk, e⟩ := pk_form hL h
  have ep := A.eq
  subst ep
  rw [e, hLk]
  show thin [x * k, y * k, w * k] = [x, y, w]
  rw [Int.mul_comm x k, Int.mul_comm y k, Int.mul_comm w k]
  exact thin_mul k0 A.pos A.red
theorem pk_inj {L : Nat} (hL : 0 < L) {p q : List Int} (h : Pk L p) (g : Pk L q) (e : fsc L p = fsc L q) : p = q := by rw [← pk_back hL h, ← pk_back hL g, e]
theorem dpos {a b k : Int} (hk : 0 < k) (e : a = k * b) : decide (0 < a) = decide (0 < b) := by
  subst e
  exact decide_eq_decide.mpr ⟨fun h => Int.pos_of_mul_pos_right h hk, fun h => Int.mul_pos hk h⟩
theorem bef_lt {L : Nat} (hL : 0 < L) {p q : List Int} (h : Pk L p) (g : Pk L q) : befL p q = decide (lt (fsc L p) (fsc L q)) := by
  obtain ⟨x, y, w, k, A, k0, hLk, e⟩ := pk_form hL h
  obtain ⟨u, v, z, j, B, j0, hLj, e'⟩ := pk_form hL g
  have ep := A.eq
  have eq := B.eq
  subst ep eq
  rw [e, e']
  show (decide (0 < u * w - x * z) || (decide (u * w - x * z = 0) && decide (0 < v * w - y * z))) = _
  have hwz : w * k = z * j := by rw [← hLk, hLj]
  have kj : 0 < k * j := Int.mul_pos k0 j0
  have wz : 0 < w * z := Int.mul_pos A.pos B.pos
  -- (u j - x k) w z = L (u w - x z)
  have L0 : 0 < w * k := Int.mul_pos A.pos k0
  have f1 : (u * j - x * k) * (w * z) = (w * k) * (u * w - x * z) := by
    have : (u * j - x * k) * (w * z) = u * w * (z * j) - x * z * (w * k) := by grind
    rw [this, ← hwz]
    grind
  have f2 : (v * j - y * k) * (w * z) = (w * k) * (v * w - y * z) := by
    have : (v * j - y * k) * (w * z) = v * w * (z * j) - y * z * (w * k) := by grind
    rw [this, ← hwz]
    grind
  generalize u * w - x * z = s at f1
  generalize v * w - y * z = t at f2
  have g1 : 0 < s ↔ x * k < u * j := by
    constructor
    · intro hs
      have h1 : 0 < (u * j - x * k) * (w * z) := by rw [f1]; exact Int.mul_pos L0 hs
      have := Int.pos_of_mul_pos_left h1 wz
      omega
    · intro hs
      have h1 : 0 < (w * k) * s := by rw [← f1]; exact Int.mul_pos (by omega) wz
      exact Int.pos_of_mul_pos_right h1 L0
  have g0 : s = 0 ↔ x * k = u * j := by
    constructor
    · intro hs
      rw [hs, Int.mul_zero] at f1
      rcases Int.mul_eq_zero.mp f1 with h1 | h1
      · omega
      · omega
    · intro hs
      have : u * j - x * k = 0 := by omega
      rw [this, Int.zero_mul] at f1
      rcases Int.mul_eq_zero.mp f1.symm with h1 | h1
      · omega
      · exact h1
  have g2 : 0 < t ↔ y * k < v * j := by
    constructor
    · intro hs
      have h1 : 0 < (v * j - y * k) * (w * z) := by rw [f2]; exact Int.mul_pos L0 hs
      have := Int.pos_of_mul_pos_left h1 wz
      omega
    · intro hs
      have h1 : 0 < (w * k) * t := by rw [← f2]; exact Int.mul_pos (by omega) wz
      exact Int.pos_of_mul_pos_right h1 L0
  unfold lt
  simp only
  by_cases c1 : 0 < s
  · rw [decide_eq_true c1, Bool.true_or]
    exact (decide_eq_true (Or.inl (g1.mp c1))).symm
  · rw [decide_eq_false c1, Bool.false_or]
    by_cases c2 : s = 0
    · rw [decide_eq_true c2, Bool.true_and]
      refine decide_eq_decide.mpr ⟨fun h => Or.inr ⟨g0.mp c2, g2.mp h⟩, fun h => ?_⟩
      rcases h with h | h
      · exact absurd (g1.mpr h) c1
      · exact g2.mpr h.2
    · rw [decide_eq_false c2, Bool.false_and]
      refine (decide_eq_false ?_).symm
      rintro (h | h)
      · exact c1 (g1.mpr h)
      · exact c2 (g0.mpr h.1)
theorem sid_gone {L : Nat} (hL : 0 < L) {a b c : List Int} (h : Pk L a) (g : Pk L b) (i : Pk L c) : decide (sidL a b c ≤ 0) = gone (fsc L a) (fsc L b) (fsc L c) := by
  obtain ⟨x, y, w, k, A, k0, hLk, e⟩ := pk_form hL h
  obtain ⟨u, v, z, j, B, j0, hLj, e'⟩ := pk_form hL g
  obtain ⟨p, q, r, l, C, l0, hLl, e2⟩ := pk_form hL i
  have ep := A.eq
  have eq := B.eq
  have er := C.eq
  subst ep eq er
  rw [e, e', e2]
  unfold gone
  show decide (sgn ((x * v - u * y) * r - (v * w - y * z) * p - (x * z - u * w) * q) ≤ 0) = _
  have hm : (x * v - u * y) * r - (v * w - y * z) * p - (x * z - u * w) * q = (x * v - u * y) * r - (v * w - y * z) * p - (x * z - u * w) * q := rfl
  have hwz : z * j = w * k := by rw [← hLk, hLj]
  have hrl : r * l = w * k := by rw [← hLk, hLl]
  have key : tt (x * k, y * k) (u * j, v * j) (p * l, q * l) * (z * r) = (w * k) * k * ((x * v - u * y) * r - (v * w - y * z) * p - (x * z - u * w) * q) := by
    unfold tt
    simp only
    have h1 : ((u * j - x * k) * (q * l - y * k) - (v * j - y * k) * (p * l - x * k)) * (z * r) = (u * (z * j) - x * k * z) * (q * (r * l) - y * k * r) - (v * (z * j) - y * k * z) * (p * (r * l) - x * k * r) := by grind
    rw [h1, hwz, hrl]
    grind
  have zr : 0 < z * r := Int.mul_pos B.pos C.pos
  have wkk : 0 < (w * k) * k := Int.mul_pos (Int.mul_pos A.pos k0) k0
  generalize (x * v - u * y) * r - (v * w - y * z) * p - (x * z - u * w) * q = s at key
  generalize tt (x * k, y * k) (u * j, v * j) (p * l, q * l) = T at key
  have sg : sgn s ≤ 0 ↔ s ≤ 0 := by unfold sgn; split <;> (try split) <;> omega
  refine decide_eq_decide.mpr (sg.trans ⟨fun h => ?_, fun h => ?_⟩)
  · by_cases g : T ≤ 0
    · exact g
    · have h1 : 0 < T * (z * r) := Int.mul_pos (by omega) zr
      have h2 : (w * k) * k * s ≤ 0 := Int.mul_nonpos_of_nonneg_of_nonpos (Int.le_of_lt wkk) h
      omega
  · by_cases g : s ≤ 0
    · exact g
    · have h1 : 0 < (w * k) * k * s := Int.mul_pos wkk (by omega)
      have h2 : T * (z * r) ≤ 0 := Int.mul_nonpos_of_nonpos_of_nonneg h (Int.le_of_lt zr)
      omega
/-! ### items: a value and its point -/
abbrev Im := V × List Int
def keyI (L : Nat) (it : Im) : P := fsc L it.2
def tI (L : Nat) (a b c : Im) : Bool := gone (keyI L a) (keyI L b) (keyI L c)
def cntI (row : List Im) (it : Im) : Nat := (row.filter fun m => befL m.2 it.2).length
def insI (row : List Im) (it : Im) : List Im := if it.2 ∈ row.map Prod.snd then row else row.take (cntI row it) ++ [it] ++ row.drop (cntI row it)
/-- a place in a row in order -/
theorem ins_at {p : P} : ∀ {l : List P}, Asc l → p ∉ l → l.take ((l.filter fun a => decide (lt a p)).length) ++ [p] ++ l.drop ((l.filter fun a => decide (lt a p)).length) = ins p l
  | [], _, _ => rfl
  | a :: r, h, hn => by
    have h1 := List.pairwise_cons.mp h
    by_cases c : lt p a
    · have e : (a :: r).filter (fun a => decide (lt a p)) = [] := by
        rw [List.filter_eq_nil_iff]
        intro x hx
        have : lt p x := by
          rcases List.mem_cons.mp hx with rfl | k
          · exact c
          · exact lt_trans c (h1.1 x k)
        simp only [decide_eq_true_eq]
        exact lt_asymm this
      rw [e]
      unfold ins
      rw [if_pos c]
      rfl
    · have ne : p ≠ a := fun z => hn (by rw [z]; exact List.mem_cons_self)
      have la : lt a p := by
        rcases lt_tri a p with k | k | k
        · exact k
        · exact (ne k.symm).elim
        · exact (c k).elim
      have ih := ins_at h1.2 (p := p) (fun z => hn (List.mem_cons_of_mem _ z))
      rw [List.filter_cons_of_pos (by simpa using la)]
      unfold ins
      rw [if_neg c, if_neg ne, ← ih]
      simp
theorem insI_key {L : Nat} (hL : 0 < L) {row : List Im} {it : Im} (hr : ∀ m ∈ row, Pk L m.2) (hi : Pk L it.2) (ha : Asc (row.map (keyI L))) : (insI row it).map (keyI L) = ins (keyI L it) (row.map (keyI L)) := by
  unfold insI
  have mem : it.2 ∈ row.map Prod.snd ↔ keyI L it ∈ row.map (keyI L) := by
    constructor
    · intro h
      obtain ⟨m, hm, e⟩ := List.mem_map.mp h
      exact List.mem_map.mpr ⟨m, hm, by unfold keyI; rw [e]⟩
    · intro h
      obtain ⟨m, hm, e⟩ := List.mem_map.mp h
      exact List.mem_map.mpr ⟨m, hm, pk_inj hL (hr m hm) hi e⟩
  by_cases c : it.2 ∈ row.map Prod.snd
  · rw [if_pos c]
    have hm := mem.mp c
    refine asc_ext ha (ins_asc ha) fun q => ?_
    rw [ins_mem]
    exact ⟨Or.inr, fun h => h.elim (fun e => e ▸ hm) id⟩
  · rw [if_neg c]
    have hn : keyI L it ∉ row.map (keyI L) := fun z => c (mem.mpr z)
    have ec : cntI row it = ((row.map (keyI L)).filter fun a => decide (lt a (keyI L it))).length := by
      unfold cntI
      rw [List.filter_map, List.length_map]
      congr 1
      refine List.filter_congr fun m hm => ?_
      exact bef_lt hL (hr m hm) hi
    rw [← ins_at ha hn, ← ec]
    simp [List.map_take, List.map_drop]
def sortI (its : List Im) : List Im := its.foldl insI []
theorem insI_mem {row : List Im} {it m : Im} (h : m ∈ insI row it) : m = it ∨ m ∈ row := by
  unfold insI at h
  split at h
  · exact Or.inr h
  · rcases List.mem_append.mp
        h with h | h
    · rcases List.mem_append.mp
          h with h | h
      · exact Or.inr (List.mem_of_mem_take h)
      · exact Or.inl (List.mem_singleton.mp h)
    · exact Or.inr (List.mem_of_mem_drop h)
theorem sortI_mem' {m : Im} : ∀ (its row : List Im), m ∈ its.foldl insI row → m ∈ row ∨ m ∈ its
  | [], row, h => Or.inl h
  | it :: r, row, h => by
    rcases sortI_mem' r _ h with k | k
    · rcases insI_mem k with e | k
      · exact Or.inr (e ▸ List.mem_cons_self)
      · exact Or.inl k
    · exact Or.inr (List.mem_cons_of_mem _ k)
theorem sortI_mem {m : Im} {its : List Im} (h : m ∈ sortI its) : m ∈ its := by
  rcases sortI_mem' its [] h with k | k
  · cases k
  · exact k
theorem sortI_next {its : List Im} {i : Nat} {it : Im} (h : its[i]? = some it) : sortI (its.take (i + 1)) = insI (sortI (its.take i)) it := by
  unfold sortI
  rw [take_next h, List.foldl_append]
  rfl
theorem sortI_key' {L : Nat} (hL : 0 < L) : ∀ (its row : List Im), (∀ m ∈ its, Pk L m.2) → (∀ m ∈ row, Pk L m.2) → Asc (row.map (keyI L)) → Asc ((its.foldl insI row).map (keyI L)) ∧ ∀ q, q ∈ (its.foldl insI row).map (keyI L) ↔ q ∈ row.map (keyI L) ∨ q ∈ its.map (keyI L)
  | [], row, _, _, ha => ⟨ha, fun q => by simp⟩
  | it :: r, row, h, hr, ha => by
    have hk := insI_key hL hr (h it List.mem_cons_self) ha
    have ha2 : Asc ((insI row it).map (keyI L)) := by rw [hk]; exact ins_asc ha
    have hr2 : ∀ m ∈ insI row it, Pk L m.2 := fun m hm => by
      rcases insI_mem hm with e | k
      · rw [e]; exact h it List.mem_cons_self
      · exact hr m k
    obtain ⟨a, b⟩ := sortI_key' hL r (insI row it) (fun m hm => h m (List.mem_cons_of_mem _ hm)) hr2 ha2
    refine ⟨a, fun q => ?_⟩
    show q ∈ (r.foldl insI (insI row it)).map (keyI L) ↔ _
    rw [b q, hk, ins_mem, List.map_cons, List.mem_cons]
    constructor
    · rintro ((h | h) | h)
      · exact Or.inr (Or.inl h)
      · exact Or.inl h
      · exact Or.inr (Or.inr h)
    · rintro (h | (h | h))
      · exact Or.inl (Or.inr h)
      · exact Or.inl (Or.inl h)
      · exact Or.inr h
theorem sortI_key {L : Nat} (hL : 0 < L) {its : List Im} (h : ∀ m ∈ its, Pk L m.2) : (sortI its).map (keyI L) = ascOf (its.map (keyI L)) := by
  obtain ⟨a, b⟩ := sortI_key' hL its [] h (by simp) List.Pairwise.nil
  refine (ascOf_eq a fun q => ?_).symm
  have := b q
  simpa using this
theorem insI_len (row : List Im) (it : Im) : (insI row it).length ≤ row.length + 1 := by
  unfold insI
  split
  · omega
  · simp only [List.length_append, List.length_take, List.length_drop, List.length_cons, List.length_nil]
    omega
theorem sortI_len : ∀ (its row : List Im), (its.foldl insI row).length ≤ row.length + its.length
  | [], row => Nat.le_refl _
  | it :: r, row => by
    have h1 := sortI_len r (insI row it)
    have h2 := insI_len row it
    simp only [List.foldl_cons, List.length_cons] at h1 ⊢
    omega
/-- the corners, as items -/
def hullI (L : Nat) (its : List Im) : List Im := hull (tI L) (sortI its)
theorem hullI_is {L : Nat} {its : List Im} {pts : List (List Int)} (hL : L = scl pts) (h0 : 0 < L) (hp : its.map Prod.snd = pts) (h : ∀ m ∈ its, Pk L m.2) : (hullI L its).map Prod.snd = hullOf pts := by
  unfold hullOf
  have e1 : (hullI L its).map (keyI L) = hl (pts.map (fsc L)) := by
    unfold hullI
    rw [← hull_map (t := tI L) (u := gone) (g := keyI L) (fun _ _ _ => rfl), sortI_key h0 h]
    have : its.map (keyI L) = pts.map (fsc L) := by rw [← hp, List.map_map]; rfl
    rw [this]
    rfl
  rw [← hL, ← e1, List.map_map]
  refine List.map_congr_left fun m hm => ?_
  have := h m (sortI_mem (hull_mem' hm))
  exact (pk_back h0 this).symm
end K8

namespace K8
open PySem L2 Ur Hull
theorem accF_map {α β : Type} (f : Nat → Bool) (g : α → β) (xs : List α) : ∀ i, accF f (xs.map g) i = (accF f xs i).map g
  | 0 => rfl
  | i + 1 => by
    have e1 : accF f (xs.map g) (i + 1) = if f i then accF f (xs.map g) i ++ ((xs.map g)[i]?).toList else accF f (xs.map g) i := rfl
    have e2 : accF f xs (i + 1) = if f i then accF f xs i ++ (xs[i]?).toList else accF f xs i := rfl
    rw [e1, e2, accF_map f g xs i, List.getElem?_map]
    split
    · rw [List.map_append]
      cases xs[i]? <;> rfl
    · rfl
theorem accF_filter {α : Type} {f : Nat → Bool} {g : α → Bool} {xs : List α} (h : ∀ i x, xs[i]? = some x → f i = g x) : ∀ i, i ≤ xs.length → accF f xs i = (xs.take i).filter g
  | 0, _ => by simp [accF]
  | i + 1, hi => by
    have hx : xs[i]? = some xs[i] := List.getElem?_eq_getElem (by omega)
    have e2 : accF f xs (i + 1) = if f i then accF f xs i ++ (xs[i]?).toList else accF f xs i := rfl
    rw [e2, accF_filter h i (by omega), take_next hx, List.filter_append, h i _ hx, hx]
    cases hg : g xs[i] with
    | true => rw [if_pos rfl, List.filter_cons_of_pos hg]; rfl
    | false => rw [if_neg (by simp), List.filter_cons_of_neg (by simp [hg])]; simp
theorem dpAll_items {K : PySem.W.Frag} {H : Hp} : ∀ {row : List Im}, (∀ m ∈ row, Tp K H m.1 m.2) → DpAll K H (row.map Prod.fst) (row.map fun m => tupD m.2)
  | [], _ => .nil
  | m :: r, h => .cons (h m List.mem_cons_self).dp (dpAll_items fun x hx => h x (List.mem_cons_of_mem _ hx))
theorem shaped_list (pts : List (List Int)) : SeqAt.shaped (.list (pts.map tupD)) = true := by
  unfold SeqAt.shaped
  show (PyData.canLayAll0 (pts.map tupD) && decide (PyData.depthAll (pts.map tupD) + 1 ≤ 64)) = true
  have := depth_tups pts
  rw [lay_tups, decide_eq_true (by omega)]
  rfl
theorem any_mem (p : List Int) : ∀ row : List Im, (row.map fun m => tupD m.2).any (fun z => PyData.eqv z (tupD p)) = decide (p ∈ row.map Prod.snd)
  | [] => rfl
  | m :: r => by
    have e : PyData.eqv (tupD m.2) (tupD p) = decide (m.2 = p) := eqv_ints m.2 p
    rw [List.map_cons, List.any_cons, e, any_mem p r, List.map_cons]
    by_cases c : m.2 = p
    · rw [decide_eq_true c, Bool.true_or]
      exact (decide_eq_true (by rw [c]; exact List.mem_cons_self)).symm
    · rw [decide_eq_false c, Bool.false_or]
      refine decide_eq_decide.mpr ⟨fun h => List.mem_cons_of_mem _ h, fun h => ?_⟩
      rcases List.mem_cons.mp h with e | k
      · exact absurd e.symm c
      · exact k
def spSorted (K : PySem.W.Frag) : Sp := fun vs H Q _ => ∃ (a : Addr) (its : List Im) (L : Nat), vs = [.ref a] ∧ SqL K H a (its.map Prod.fst) ∧ (∀ m ∈ its, Tp K H m.1 m.2 ∧ Pk L m.2) ∧ its.length ≤ 100 ∧ ∀ l H', H l = none → Same H H' → H' l = some (.lst ((sortI its).map Prod.fst)) → Q (.ref l) H'
section
variable {P' : Program} {w : World} {K :
      PySem.W.Frag} {mg : Str → Option Value} {base : Heap}
abbrev n_lsorted : List Str := ["_law_spots", "_law_row", "_law_spot_here", "_law_mate"]
abbrev p_lspots : List Str := ["_law_spots"]
theorem sc_lsorted : FnScope n_lsorted p_lspots (defScope sLSorted) := ⟨rfl, rfl, rfl, by decide +kernel, rfl, by decide +kernel, by decide +kernel⟩
theorem w100 : 100 ≤ WB := le_wb (k := 7) (by decide) (by decide)
theorem ok_lsorted {f : Addr} {fd : FuncData} (F : Fun K "_law_sorted" "_law_sorted" sLSorted f fd) (T : Bl mg) (H_law_before : Has P' w K mg base "_law_before" p_lway 5 (spBef K)) : FnOk P' w K mg base CX0 6 f fd p_lspots (spSorted K) := by
  refine F.ok sc_lsorted (fun vs H Q E h => ?_) (fun cdv A outer s H vs Q E hr h => ?_)
  · obtain ⟨_, _, _, rfl, _⟩ := h
    rfl
  · obtain ⟨a, its, L, rfl, hS, hI, hz, q⟩ := h
    have hu5 : (A.deeper (PyProof.Rows.envOfC "_law_sorted" (defScope sLSorted) s.heap.objs.size f cdv)).units + 65 < cLine := by have := hr.un; omega
    refine ⟨_, (pss_cons (ps_set (i := 1) sc_lsorted.nd rfl (Or.inl rfl) (pe_lst pa_nil))
      (pss_cons (ps_for PassesOwn.never rfl (pi_list (pv 0)) (pg_name (i := 2) sc_lsorted.nd rfl (Or.inr rfl)) (pss_one (ps_if (pt_cmpR (notInD_K (K := K) rfl hu5) (pv 2) (pv 1) (by rfl)) (pss_one (ps_expr (pe_bm PySem.F.plainAttrs_list PySem.F.slot_list_insert PySem.F.type_list_insert mt_insert (pv 1) (pa_cons (pe_callB (r := Ur.rLen K) Ur.len_seq (by rfl) T.len PySem.boot_len (pa_cons (pe_lc (own := [("_law_mate", 3)]) (g := gName 3) rfl sc_lsorted.nd (pi_list (pv 1)) (blkOk_by (N := n_lsorted) (sc := defScope sLSorted) (by decide +kernel)) (fun _ _ _ _ _ => pg_name (i := 3) sc_lsorted.nd rfl (Or.inl rfl)) (fun _ _ _ _ _ => pts_one (pt_val (pe_has H_law_before (hr.mono (by decide)) (by rfl) (pa_cons (pv 3) (pa_cons (pv 2) pa_nil))))) (fun _ _ _ _ _ => (pv 3))) pa_nil)) (pa_cons (pv 2) pa_nil))))) pss_nil)))
      (pss_one (ps_ret (pv 1))))), ?_⟩
    refine ⟨by show 0 ≤ sizeLine; decide, fun l hl => ?_⟩
    refine ⟨_, rfl, a, rfl, ⟨_, (same_new hl).seq hS⟩, for_list (K := K) (a := a) (xs := its.map Prod.fst) (fun i σ H' => ∃ v : Option V, σ = [some (.ref a), some (.ref l), v, none] ∧ Same H H' ∧ H' l = some (.lst ((sortI (its.take i)).map Prod.fst))) ⟨none, rfl, same_new hl, upd_same⟩ (fun i σ H' _ ⟨_, _, sm, _⟩ => sm.seq hS) ?_ ?_⟩
    · rintro i x σ H' hi ⟨v, rfl, sm, hk⟩
      obtain ⟨it, hit, rfl⟩ : ∃ it, its[i]? = some it ∧ x = it.1 := by
        rw [List.getElem?_map] at hi
        cases e : its[i]? with
        | none => rw [e] at hi; cases hi
        | some it => rw [e] at hi; exact ⟨it, rfl, (Option.some.inj hi).symm⟩
      have hm := hI it (List.mem_of_getElem? hit)
      have hrow : ∀ m ∈ sortI (its.take i), Tp K H m.1 m.2 ∧ Pk L m.2 := fun m hm => hI m (List.mem_of_mem_take (sortI_mem hm))
      have hrl : (sortI (its.take i)).length ≤ 100 := by
        have := sortI_len (its.take i) []
        have h2 : (its.take i).length ≤ 100 := by rw [List.length_take]; omega
        have e : sortI (its.take i) = (its.take i).foldl insI [] := rfl
        rw [e]
        simp only [List.length_nil] at this
        omega
      have hnx := sortI_next hit
      generalize sortI (its.take i) = row at hk hrow hrl hnx
      have tm := hm.1.same sm
      have da : DpAll K H' (row.map Prod.fst) ((row.map Prod.snd).map tupD) := by
        have := dpAll_items (K := K) (H := H') (row := row) fun m hm => (hrow m hm).1.same sm
        rw [List.map_map]
        exact this
      refine ⟨_, rfl, _, rfl, _, _, tm.dp, dp_list hk da, shaped_ints _, shaped_list _, _, rfl, ?_⟩
      have ea : ((row.map Prod.snd).map tupD).any (fun z => PyData.eqv z (tupD it.2)) = decide (it.2 ∈ row.map Prod.snd) := by
        rw [List.map_map]
        exact any_mem it.2 row
      rw [show (PyData.tuple (it.2.map PyData.int)) = tupD it.2 from rfl, ea]
      refine ite2 (fun c
            => ?_) (fun c => ?_)
      · have hn : it.2 ∉ row.map Prod.snd := by simpa using c
        have ei : insI row it = row.take (cntI row it) ++ [it] ++ row.drop (cntI row it) := by unfold insI; rw [if_neg hn]
        refine ⟨_, rfl, Or.inl ⟨rfl, _, SqL.of hk⟩, ?_⟩
        unfold tCons tCB
        dsimp only
        refine lcLf (K := K) (a := l) (xs := row.map Prod.fst) (fun j => befL (row.getD j it).2 it.2) (fun R r => ⟨_, rfl, r⟩) (SqL.of hk) (by rw [List.length_map]; omega) (fun _ => rfl) (fun j y H3 hj s3 Q' q' => ?_) (fun j y H3 Q' q' => ⟨_, rfl, q'⟩) (fun D H3 hD s3 hy => ?_)
        · obtain ⟨m, hm1, rfl⟩ : ∃ m, row[j]? = some m ∧ y = m.1 := by
            rw [List.getElem?_map] at hj
            cases e : row[j]? with
            | none => rw [e] at hj; cases hj
            | some it => rw [e] at hj; exact ⟨it, rfl, (Option.some.inj hj).symm⟩
          have gm : row.getD j it = m := by rw [List.getD_eq_getElem?_getD, hm1]; rfl
          have hrm := hrow m (List.mem_of_getElem? hm1)
          obtain ⟨x1, y1, w1, A1⟩ := hrm.2.pt
          obtain ⟨x2, y2, w2, A2⟩ := hm.2.pt
          rw [gm] at q'
          exact ⟨_, rfl, _, rfl, m.1, it.1, m.2, it.2, _, _, _, _, _, _, 100, 100, rfl, (hrm.1.same sm).same s3, tm.same s3, A1, A2, w100, w100, fun H4 s4 => ⟨_, rfl, q' H4 s4⟩⟩
        · have ec : (accF (fun j => befL (row.getD j it).2 it.2) (row.map Prod.fst) (row.map Prod.fst).length).length = cntI row it := by
            rw [accF_map, List.length_map, List.length_map, accF_filter (g := fun m => befL m.2 it.2) (fun j x hj => by rw [List.getD_eq_getElem?_getD, hj]; rfl) _ (Nat.le_refl _), List.take_length]
            rfl
          have hcl : cntI row it ≤ row.length := List.length_filter_le _ _
          refine ⟨D, _, rfl, Or.inl (SqL.of hy), ?_⟩
          rw [ec]
          refine ⟨_, rfl, l, _, ((cntI row it : Nat) : Int), it.1, rfl, rfl, s3 _ _ hk, ?_, by omega, by omega, _, rfl, same_own (sm.trans s3) hl, ?_⟩
          · rw [List.length_map]
            exact Nat.lt_of_le_of_lt hrl (by decide)
          · rw [upd_same, hnx, ei, Int.toNat_natCast]
            simp [List.map_take, List.map_drop]
      · have hn : it.2 ∈ row.map Prod.snd := by
          refine Classical.byContradiction fun z => c ?_
          rw [decide_eq_false z]
          rfl
        have ei : insI row it = row := by unfold insI; rw [if_pos hn]
        exact ⟨_, rfl, sm, by rw [hnx, ei]; exact hk⟩
    · rintro σ H' ⟨v, rfl, sm, hk⟩
      rw [List.length_map, List.take_length] at hk
      exact ⟨_, rfl, q l H' hl sm hk⟩
end
end K8

namespace K8
open PySem L2 Ur Hull
theorem hull_short {α : Type} (t : α → α → α → Bool) {l : List α} (h : l.length < 3) : hull t l = l := by
  match l, h with
  | [], _ => rfl
  | [_], _ => rfl
  | [_, _], _ => rfl
def rowK (row : List Im) (i : Nat) : List Im := if i = 0 then row else row.reverse
def fndI (L : Nat) (row : List Im) : Nat → List V
  | 0 => []
  | i + 1 => fndI L row i ++ (bends (tI L) (rowK row i)).dropLast.map Prod.fst
def spLHull (K : PySem.W.Frag) : Sp := fun vs H Q _ => ∃ (a : Addr) (its : List Im) (L : Nat), vs = [.ref a] ∧ SqL K H a (its.map Prod.fst) ∧ (∀ m ∈ its, Tp K H m.1 m.2 ∧ Pk L m.2) ∧ its.length ≤ 100 ∧ 0 < L ∧
  ∀ (r : Addr) H', Same H H' → SqT K H' r ((hullI L its).map Prod.fst) → Q (.ref r) H'
theorem bends_len {α : Type} (t : α → α → α → Bool) (l : List α) : (bends t l).length ≤ l.length := by
  unfold bends
  rw [List.length_reverse]
  have : (Hull.stack t l).length ≤ 0 + l.length := stack_len (t := t) l []
  omega
section
variable {P' : Program} {w : World} {K :
      PySem.W.Frag} {mg : Str → Option Value} {base : Heap}
abbrev n_lhull : List Str := ["_law_spots", "_law_row", "_law_found", "_law_side_here", "_law_chain", "_law_spot_here"]
theorem sc_lhull : FnScope n_lhull p_lspots (defScope sLHull) := ⟨rfl, rfl, rfl, by decide +kernel, rfl, by decide +kernel, by decide +kernel⟩
set_option
      maxHeartbeats 1000000 in
theorem ok_lhull {f : Addr} {fd : FuncData} (F : Fun K "_law_hull" "_law_hull" sLHull f fd) (T : Bl mg) (H_law_sorted : Has P' w K mg base "_law_sorted" p_lspots 6 (spSorted K)) (H_law_side : Has P' w K mg base "_law_side" p_lside 5 (spLSide K)) : FnOk P' w K mg base CX0 7 f fd p_lspots (spLHull K) := by
  refine F.ok sc_lhull (fun vs H Q E h => ?_) (fun cdv A outer s H vs Q E hr h => ?_)
  · obtain ⟨_, _, _, rfl, _⟩ := h
    rfl
  · obtain ⟨a, its, L, rfl, hS, hI, hz, hL, q⟩ := h
    refine ⟨_, (pss_cons (ps_set (i := 1) sc_lhull.nd rfl (Or.inl rfl) (pe_has H_law_sorted (hr.mono (by decide)) (by rfl) (pa_cons (pv 0) pa_nil)))
      (pss_cons (ps_if (pt_cmpR op_lt (pe_callB (r := Ur.rLen K) Ur.len_seq (by rfl) T.len PySem.boot_len (pa_cons (pv 1) pa_nil)) pe_int (nomark _)) (pss_one (ps_ret (pe_callTy call_tuple_of (by rfl) T.tuple PyProof.Rows.boot_tuple (pa_cons (pv 1) pa_nil)))) pss_nil)
      (pss_cons (ps_set (i := 2) sc_lhull.nd rfl (Or.inl rfl) (pe_lst pa_nil))
      (pss_cons (ps_for PassesOwn.never rfl (pi_list (pe_lst (pa_cons (pv 1) (pa_cons (pe_revL (pv 1)) pa_nil)))) (pg_name (i := 3) sc_lhull.nd rfl (Or.inl rfl)) (pss_cons (ps_set (i := 4) sc_lhull.nd rfl (Or.inl rfl) (pe_lst pa_nil))
      (pss_cons (ps_for PassesOwn.never rfl (pi_list (pv 3)) (pg_name (i := 5) sc_lhull.nd rfl (Or.inl rfl)) (pss_cons (ps_while PassesOwn.never (PW.pt (pw_and (pt_cmpR op_gt (pe_callB (r := Ur.rLen K) Ur.len_seq (by rfl) T.len PySem.boot_len (pa_cons (pv 4) pa_nil)) pe_int (nomark _)) (pw_and1 (pt_cmpR op_le (pe_has H_law_side (hr.mono (by decide)) (by rfl) (pa_cons (pe_ix (r := rIxL K) ix_list (pv 4) (pe_un un_neg pe_int) (fun _ _ => rfl)) (pa_cons (pe_ix (r := rIxL K) ix_list (pv 4) (pe_un un_neg pe_int) (fun _ _ => rfl)) (pa_cons (pv 5) pa_nil)))) pe_int (nomark _))))) (pss_one (ps_expr (pe_bm0 PySem.F.plainAttrs_list PySem.F.slot_list_pop PySem.F.type_list_pop mt_pop (pv 4)))))
      (pss_one (ps_expr (pe_bm PySem.F.plainAttrs_list PySem.F.slot_list_append PySem.F.type_list_append mt_append (pv 4) (pa_cons (pv 5) pa_nil))))))
      (pss_one (ps_set (i := 2) sc_lhull.nd rfl (Or.inl rfl) (pe_op op_cat (pv 2) (pe_slice sl_list (pv 4) po_none (po_some (pe_un un_neg pe_int)))))))))
      (pss_one (ps_ret (pe_callTy call_tuple_of (by rfl) T.tuple PyProof.Rows.boot_tuple (pa_cons (pv 2) pa_nil)))))))), ?_⟩
    refine ⟨_, rfl, a, its, L, rfl, hS, hI, hz, fun l H1 hl s1 h1 => ?_⟩
    obtain ⟨row, hrow⟩ : ∃ row, row = sortI its := ⟨_, rfl⟩
    have hq : hullI L its = hull (tI L) row := by rw [hrow]; rfl
    have hm : ∀ m ∈ row, Tp K H m.1 m.2 ∧ Pk L m.2 := fun m h => hI m (sortI_mem (hrow ▸ h))
    have hrl : row.length ≤ 100 := by
      have := sortI_len its []
      have e : sortI its = its.foldl insI [] := rfl
      rw [hrow, e]
      simp only [List.length_nil] at this
      omega
    rw [← hrow] at h1
    rw [hq] at q
    refine ⟨_, rfl, l, _, rfl, Or.inl (SqL.of h1), _, _, rfl, rfl, _, rfl, ?_⟩
    rw [List.length_map]
    refine ite2 (fun c
          => ?_) (fun c => ?_)
    · have h3 : row.length < 3 := by have := of_decide_eq_true c; omega
      rw [hull_short (tI L) h3] at q
      exact ⟨_, rfl, l, _, rfl, Or.inl ⟨SqL.of h1, fun r hr => q r _ (s1.trans (same_new hr)) (SqT.of upd_same)⟩⟩
    · have h3 : ¬ row.length < 3 := fun z => c (decide_eq_true (by omega))
      have eh : (hull (tI L) row).map Prod.fst = fndI L row 2 := by
        unfold hull
        rw [if_neg (by omega)]
        show _ = (([] ++ (bends (tI L) row).dropLast.map Prod.fst) ++ (bends (tI L) row.reverse).dropLast.map Prod.fst)
        rw [List.map_append, List.nil_append]
      rw [eh] at q
      refine ⟨by show 0 ≤ sizeLine; decide, fun fl hfl => ?_⟩
      have s2 := s1.trans (same_new (p := fl) (o := HO.lst []) hfl)
      have h2 : (upd H1 fl (.lst [])) l = some (.lst (row.map Prod.fst)) := same_new hfl _ _ h1
      have hf2 : (upd H1 fl (.lst [])) fl = some (.lst []) := upd_same
      generalize upd H1 fl (.lst []) = H2 at s2 h2 hf2
      refine ⟨_, rfl, _, rfl, l, _, rfl, SqL.of h2, fun lr hlr => ⟨by show 2 ≤ sizeLine; decide, fun ld hld => ?_⟩⟩
      have s3 := (s2.trans (same_new (p := lr) (o := HO.lst (row.map Prod.fst).reverse) hlr)).trans (same_new (p := ld) (o := HO.lst [V.ref l, .ref lr]) hld)
      have hl3 := same_new (p := ld) (o := HO.lst [V.ref l, .ref lr]) hld _ _ (same_new (p := lr) (o := HO.lst (row.map Prod.fst).reverse) hlr _ _ h2)
      have hlr3 := same_new (p := ld) (o := HO.lst [V.ref l, .ref lr]) hld _ _ (upd_same (H := H2) (a := lr) (o := HO.lst (row.map Prod.fst).reverse))
      have hf3 := same_new (p := ld) (o := HO.lst [V.ref l, .ref lr]) hld _ _ (same_new (p := lr) (o := HO.lst (row.map Prod.fst).reverse) hlr _ _ hf2)
      have hld3 : (upd (upd H2 lr (.lst (row.map Prod.fst).reverse)) ld (.lst [V.ref l, .ref lr])) ld = some (.lst [V.ref l, .ref lr]) := upd_same
      generalize upd (upd H2 lr (.lst (row.map Prod.fst).reverse)) ld (.lst [V.ref l, .ref lr]) = H3 at s3 hl3 hlr3 hf3 hld3
      refine ⟨ld, rfl, ⟨_, SqL.of hld3⟩, for_list (K := K) (a := ld) (xs := [V.ref l, .ref lr]) (fun i σ H' => ∃ (fa : Addr) (o3 o4 o5 : Option V), σ = [some (.ref a), some (.ref l), some (.ref fa), o3, o4, o5] ∧ Same H3 H' ∧ H' fa = some (.lst (fndI L row i))) ⟨fl, none, none, none, rfl, Same.refl _, hf3⟩ (fun i σ H' _ ⟨_, _, _, _, _, sm, _⟩ => sm.seq (SqL.of hld3)) ?_ ?_⟩
      · rintro i x σ H' hi ⟨fa, o3, o4, o5, rfl, sm, hfa⟩
        obtain ⟨ad, rfl, had⟩ : ∃ ad, x = .ref ad ∧ H' ad = some (.lst ((rowK row i).map Prod.fst)) := by
          match i, hi with
          | 0, hi => exact ⟨l, (Option.some.inj hi).symm, sm _ _ hl3⟩
          | 1, hi => exact ⟨lr, (Option.some.inj hi).symm, by
              have e : (rowK row 1).map Prod.fst = (row.map Prod.fst).reverse := by rw [← List.map_reverse]; rfl
              rw [e]
              exact sm _ _ hlr3⟩
        have hmk : ∀ m ∈ rowK row i, Tp K H' m.1 m.2 ∧ Pk L m.2 := fun m h => by
          have : m ∈ row := by
            unfold rowK at h
            split at h
            · exact h
            · exact List.mem_reverse.mp h
          exact ⟨((hm m this).1.same s3).same sm, (hm m this).2⟩
        have hkl : (rowK row i).length ≤ 100 := by
          unfold rowK
          split
          · exact hrl
          · rw [List.length_reverse]; exact hrl
        have hnext : fndI L row (i + 1) = fndI L row i ++ (bends (tI L) (rowK row i)).dropLast.map Prod.fst := rfl
        have hfl' : (fndI L row i).length ≤ 200 := by
          match i, hi with
          | 0, _ => exact Nat.zero_le _
          | 1, _ =>
            show ([] ++ (bends (tI L) row).dropLast.map Prod.fst).length ≤ 200
            have := bends_len (tI L) row
            rw [List.nil_append, List.length_map, List.length_dropLast]
            omega
        generalize rowK row i = rk at had hmk hkl hnext
        refine ⟨by show 0 ≤ sizeLine; decide, fun lc hlc => ?_⟩
        have sc1 := same_new (p := lc) (o := HO.lst []) hlc
        refine ⟨_, rfl, ad, rfl, ⟨_, SqL.of (sc1 _ _ had)⟩, for_list (K := K) (a := ad) (xs := rk.map Prod.fst) (fun j σ H'' => ∃ o5 : Option V, σ = [some (.ref a), some (.ref l), some (.ref fa), some (.ref ad), some (.ref lc), o5] ∧ Same H' H'' ∧ H'' lc = some (.lst ((Hull.stack (tI L) (rk.take j)).map Prod.fst).reverse)) ⟨o5, rfl, sc1, upd_same⟩ (fun j σ H'' _ ⟨_, _, sm, _⟩ => SqL.of (sm _ _ had)) ?_ ?_⟩
        · rintro j x σ H'' hj ⟨o5', rfl, s4, hk⟩
          obtain ⟨it, hit, rfl⟩ : ∃ it, rk[j]? = some it ∧ x = it.1 := by
            rw [List.getElem?_map] at hj
            cases e : rk[j]? with
            | none => rw [e] at hj; cases hj
            | some it => rw [e] at hj; exact ⟨it, rfl, (Option.some.inj hj).symm⟩
          have hx := hmk it (List.mem_of_getElem? hit)
          have hst : ∀ y ∈ Hull.stack (tI L) (rk.take j), Tp K H' y.1 y.2 ∧ Pk L y.2 := fun y hy => hmk y (List.mem_of_mem_take (stack_mem hy))
          have hsl : (Hull.stack (tI L) (rk.take j)).length ≤ 100 := by
            have : (Hull.stack (tI L) (rk.take j)).length ≤ 0 + (rk.take j).length := stack_len (t := tI L) (rk.take j) []
            rw [List.length_take] at this
            omega
          have hnx := stack_next (t := tI L) hit
          generalize Hull.stack (tI L) (rk.take j) = st0 at hk hst hsl hnx
          refine ⟨fun m σ H4 => ∃ st, st.length = m ∧ σ = [some (.ref a), some (.ref l), some (.ref fa), some (.ref ad), some (.ref lc), some it.1] ∧ Same H' H4 ∧ H4 lc = some (.lst (st.map Prod.fst).reverse) ∧ popw (tI L) it st = popw (tI L) it st0 ∧ (∀ y ∈ st, Tp K H' y.1 y.2 ∧ Pk L y.2) ∧ st.length ≤ 100, ⟨_, st0, rfl, rfl, s4, hk, rfl, hst, hsl⟩, ?_⟩
          rintro m σ H4 ⟨st, rfl, rfl, s5, h5, ep, hst2, hl2⟩
          refine ⟨_, rfl, lc, _, rfl, Or.inl (SqL.of h5), ?_⟩
          rw [List.length_reverse, List.length_map]
          match st, ep, hst2, hl2, h5 with
          | [], ep, hst2, hl2, h5 =>
            refine ⟨_, _, rfl, rfl, _, rfl, ?_⟩
            refine ite2 (fun c => absurd (of_decide_eq_true c) (by decide)) (fun _ => ?_)
            exact ⟨_, rfl, Or.inl ⟨rfl, _, SqL.of h5⟩, _, rfl, lc, _, _, rfl, rfl, h5, by show 0 < sizeLine; decide, some it.1, rfl, same_own s5 hlc, by rw [upd_same, hnx, ← ep]; rfl⟩
          | [b], ep, hst2, hl2, h5 =>
            refine ⟨_, _, rfl, rfl, _, rfl, ?_⟩
            refine ite2 (fun c => absurd (of_decide_eq_true c) (by simp)) (fun _ => ?_)
            exact ⟨_, rfl, Or.inl ⟨rfl, _, SqL.of h5⟩, _, rfl, lc, _, _, rfl, rfl, h5, by show 1 < sizeLine; decide, some it.1, rfl, same_own s5 hlc, by rw [upd_same, hnx, ← ep]; rfl⟩
          | b :: c :: r, ep, hst2, hl2, h5 =>
            have er : ((b :: c :: r).map Prod.fst).reverse = (r.map Prod.fst).reverse ++ [c.1] ++ [b.1] := by simp
            rw [er] at h5
            have hb := hst2 b List.mem_cons_self
            have hc := hst2 c (List.mem_cons_of_mem _ List.mem_cons_self)
            have ei : popw (tI L) it (b :: c :: r) = if tI L c b it then popw (tI L) it (c :: r) else b :: c :: r := rfl
            obtain ⟨x1, y1, w1, A1⟩ := hc.2.pt
            obtain ⟨x2, y2, w2, A2⟩ := hb.2.pt
            obtain ⟨x3, y3, w3', A3⟩ := hx.2.pt
            refine ⟨_, _, rfl, rfl, _, rfl, ?_⟩
            refine ite2 (fun _ => ?_) (fun d => absurd (decide_eq_true (by simp only [List.length_cons]; omega)) d)
            refine ⟨_, rfl, _, rfl, lc, _, _, c.1, rfl, rfl, SqL.of h5, atI_two _ _ _, _, rfl, _, rfl, lc, _, _, b.1, rfl, rfl, SqL.of h5, atI_last _ _, _, rfl, c.1, b.1, it.1, c.2, b.2, it.2, _, _, _, _, _, _, _, _, _, 100, rfl, hc.1.same s5, hb.1.same s5, hx.1.same s5, A1, A2, A3, by decide, fun H6 s6 => ⟨_, _, rfl, rfl, _, rfl, ?_⟩⟩
            have eg : decide (sidL c.2 b.2 it.2 ≤ 0) = tI L c b it := sid_gone hL hc.2 hb.2 hx.2
            rw [eg]
            have s56 := s5.trans s6
            have h6 := s6 _ _ h5
            refine ite2 (fun d => ?_) (fun d => ?_)
            · have e2 : popw (tI L) it (c :: r) = popw (tI L) it st0 := by
                rw [← ep, ei, if_pos d]
              refine ⟨fun σ' H' => σ' = [some (.ref a), some (.ref l), some (.ref fa), some (.ref ad), some (.ref lc), some it.1] ∧ Same _ H' ∧ H' lc = some (.lst ((c :: r).map Prod.fst).reverse), fun σ' H' ⟨g1, g2, g3⟩ => ⟨(c :: r).length, by simp, c :: r, rfl, g1, g2, g3, e2, fun y hy => hst2 y (List.mem_cons_of_mem _ hy), by simp only [List.length_cons] at hl2 ⊢; omega⟩, ?_⟩
              exact ⟨_, rfl, Or.inl ⟨rfl, _, SqL.of h6⟩, lc, _, b.1, rfl, rfl, h6, by simp, rfl, same_own s56 hlc, by rw [upd_same, List.dropLast_concat]; simp⟩
            · have e2 : b :: c :: r = popw (tI L) it st0 := by
                rw [← ep, ei, if_neg d]
              refine ⟨_, rfl, Or.inl ⟨rfl, _, SqL.of h6⟩, _, rfl, lc, _, _, rfl, rfl, h6, ?_, some it.1, rfl, same_own s56 hlc, by rw [upd_same, hnx, ← e2]; simp⟩
              refine Nat.lt_of_le_of_lt (?_ : _ ≤ 1000) (by decide)
              simp only [List.length_append, List.length_reverse, List.length_cons, List.length_nil, List.length_map] at hl2 ⊢
              omega
        · rintro σ H'' ⟨o5', rfl, s4, hk⟩
          rw [List.length_map, List.take_length] at hk
          refine ⟨_, rfl, _, rfl, 1, rfl, -1, rfl, lc, _, rfl, SqL.of hk, fun p hp => ?_⟩
          rw [cut_last]
          have eb : ((Hull.stack (tI L) rk).map Prod.fst).reverse.dropLast = (bends (tI L) rk).dropLast.map Prod.fst := by
            unfold bends
            rw [← List.map_reverse, List.map_dropLast]
          rw [eb]
          have hbl := bends_len (tI L) rk
          have s6 := s4.trans (same_new (p := p) (o := HO.lst ((bends (tI L) rk).dropLast.map Prod.fst)) hp)
          refine ⟨_, _, _, _, rfl, rfl, s6 _ _ hfa, upd_same, ?_, fun p2 hp2 => ⟨p2, _, _, _, rfl, sm.trans (s6.trans (same_new hp2)), by rw [upd_same, hnext]⟩⟩
          rw [List.length_map, List.length_dropLast]
          exact Nat.le_trans (by omega : _ ≤ 400) (by decide)
      · rintro σ H' ⟨fa, o3, o4, o5, rfl, sm, hfa⟩
        exact ⟨_, rfl, fa, _, rfl, Or.inl ⟨SqL.of hfa, fun r hr => q r _ ((s3.trans sm).trans (same_new hr)) (SqT.of upd_same)⟩⟩
end
end K8

namespace K8
open PySem L2 Ur Hull
abbrev sLMiddle : Stmt := top 58
abbrev sLMass : Stmt := top 60
abbrev sLAim : Stmt := top 61
theorem scb_pk {pts : List (List Int)} {S : Nat} (h : Scb pts S) {p : List Int} (hp : p ∈ pts) : Pk (scl pts) p := ⟨h.ok p hp, scl_has hp⟩
theorem pol_self {pts : List (List Int)} {S : Nat} (h : Pol pts S) : hl (pts.map (fsc (scl pts))) = pts.map (fsc (scl pts)) := by
  have e := congrArg (List.map (fsc (scl pts))) h.self
  unfold hullOf at e
  rw [List.map_map] at e
  have h2 : List.map (fsc (scl pts) ∘ fun p => thin [p.1, p.2, ((scl pts : Nat) : Int)]) (hl (pts.map (fsc (scl pts)))) = hl (pts.map (fsc (scl pts))) := by
    conv => rhs; rw [← List.map_id (hl (pts.map (fsc (scl pts))))]
    refine List.map_congr_left fun q hq => ?_
    obtain ⟨p, hp, rfl⟩ := List.mem_map.mp (hl_sub hq)
    have := pk_back h.scb.scl_pos (scb_pk h.scb hp)
    show fsc (scl pts) (thin [(fsc (scl pts) p).1, (fsc (scl pts) p).2, (scl pts : Nat)]) = fsc (scl pts) p
    rw [this]
  exact h2.symm.trans e
/-- the corners go round counterclockwise -/
theorem fan_pos {pts : List (List Int)} {S : Nat} (h : Pol pts S) {k : Nat} {a b c : List Int} (h0 : pts[0]? = some a) (hb : pts[k + 1]? = some b) (hc : pts[k + 2]? = some c) : 0 < sidL a b c := by
  have hL := h.scb.scl_pos
  have e := pol_self h
  have ma := scb_pk h.scb (List.mem_of_getElem? h0)
  have mb := scb_pk h.scb (List.mem_of_getElem? hb)
  have mc := scb_pk h.scb (List.mem_of_getElem? hc)
  generalize scl pts = L at *
  cases pts with
  | nil => cases h0
  | cons x rest =>
    obtain rfl : x = a := Option.some.inj h0
    have hb' : rest[k]? = some b := hb
    have hc' : rest[k + 1]? = some c := hc
    have er : rest = rest.take k ++ b :: c :: rest.drop (k + 2) := by
      have h1 := (List.getElem?_eq_some_iff.mp hb')
      have h2 := (List.getElem?_eq_some_iff.mp hc')
      obtain ⟨l1, e1⟩ := h1
      obtain ⟨l2, e2⟩ := h2
      conv => lhs; rw [← List.take_append_drop k rest]
      rw [List.drop_eq_getElem_cons l1, e1, List.drop_eq_getElem_cons l2, e2]
    have em : rest.map (fsc L) = (rest.take k).map (fsc L) ++ fsc L b :: fsc L c :: (rest.drop (k + 2)).map (fsc L) := by
      conv => lhs; rw [er]
      simp
    have := hl_fan (l := (x :: rest).map (fsc L)) (x := fsc L x) (rest := rest.map (fsc L)) (by rw [e]; rfl) em
    have hg : ¬ gone (fsc L x) (fsc L b) (fsc L c) = true := fun z => by
      have := of_decide_eq_true z
      omega
    rw [← sid_gone hL ma mb mc] at hg
    have h9 : ¬ sidL x b c ≤ 0 := fun z => hg (decide_eq_true z)
    omega
theorem fr_add {a b : List Int} {t e u d : Int} {n m : Nat} (A : FrL n a t e) (B : FrL m b u d) : ∃ (g p r : Int), 0 < g ∧ t * d + u * e = g * p ∧ e * d = g * r ∧ FrL (n * m + m * n) (addF a b) p r := by
  have ea := A.eq
  have eb := B.eq
  subst ea eb
  exact fr_thin (Int.mul_pos A.pos B.pos) (addb (mulb A.bt B.bb) (mulb B.bt A.bb)) (Nat.le_trans (mulb A.bb B.bb) (Nat.le_add_right _ _))
theorem FrL.up {n m : Nat} {a : List Int} {t e : Int} (h : FrL n a t e) (k : n ≤ m) : FrL m a t e := ⟨h.eq, h.pos, h.red, Nat.le_trans h.bt k, Nat.le_trans h.bb k⟩
theorem PtL.up {n m : Nat} {a : List Int} {x y w : Int} (h : PtL n a x y w) (k : n ≤ m) : PtL m a x y w := ⟨h.eq, h.pos, h.red, Nat.le_trans h.bx k, Nat.le_trans h.bby k, Nat.le_trans h.bw k⟩
theorem pw2 {n m a b : Nat} (h : n ≤ 2 ^ a) (k : m ≤ 2 ^ b) : n * m + m * n ≤ 2 ^ (a + b + 1) := by
  have h1 : n * m ≤ 2 ^ (a + b) := by rw [Nat.pow_add]; exact Nat.mul_le_mul h k
  have h2 : m * n ≤ 2 ^ (a + b) := by rw [Nat.mul_comm]; exact h1
  rw [Nat.pow_succ]
  omega
theorem pw3 {n m a b : Nat} (h : n ≤ 2 ^ a) (k : m ≤ 2 ^ b) : n * m + n * m ≤ 2 ^ (a + b + 1) := by
  have := pw2 h k
  rw [Nat.mul_comm m n] at this
  exact this
theorem pw1 {n m a b : Nat} (h : n ≤ 2 ^ a) (k : m ≤ 2 ^ b) : n * m ≤ 2 ^ (a + b) := by rw [Nat.pow_add]; exact Nat.mul_le_mul h k
theorem pup {a b : Nat} (h : a ≤ b) : 2 ^ a ≤ 2 ^ b := Nat.pow_le_pow_right (by decide) h
theorem pwb {a : Nat} (h : a ≤ 1000) : 2 ^ a ≤ WB := le_wb (Nat.le_refl _) h
def spMid (K : PySem.W.Frag) : Sp := fun vs H Q _ => ∃ (v : V) (xs : List V) (pts : List (List Int)) (S : Nat), vs = [v] ∧ SecV K H v xs pts S ∧ ∀ (p : V) (a : List Int) (x y w : Int) (H' : Hp), Same H H' → Tp K H' p a → PtL (2 ^ 600) a x y w → Q p H'
section
variable {P' : Program} {w : World} {K :
      PySem.W.Frag} {mg : Str → Option Value} {base : Heap}
abbrev n_lmiddle : List Str := ["_law_spots", "_law_total", "_law_step", "_law_k", "_law_one", "_law_two", "_law_part"]
theorem sc_lmiddle : FnScope n_lmiddle p_lspots (defScope sLMiddle) := ⟨rfl, rfl, rfl, by decide +kernel, rfl, by decide +kernel, by decide +kernel⟩
theorem ok_lmiddle {f : Addr} {fd : FuncData} (F : Fun K "_law_middle" "_law_middle" sLMiddle f fd) (T : Bl mg) (H_law_way : Has P' w K mg base "_law_way" p_lway 4 (spP2 K wayL)) (H_law_cross : Has P' w K mg base "_law_cross" p_lsg 4 (spP2 K crsL)) (H_law_add : Has P' w K mg base "_law_add" p_l12 4 (spFF K))
    (H_law_on : Has P' w K mg base "_law_on" p_lon 4 (spP2 K sumL)) (H_law_by : Has P' w K mg base "_law_by" p_lby 4 (spPF K byL)) (H_law_frac : Has P' w K mg base "_law_frac" p_lfrac 3 (spN2 K)) : FnOk P' w K mg base CX0 5 f fd p_lspots (spMid K) := by
  refine F.ok sc_lmiddle (fun vs H Q E h => ?_) (fun cdv A outer s H vs Q E hr h => ?_)
  · obtain ⟨_, _, _, _, rfl, _⟩ := h
    rfl
  · obtain ⟨v, xs, pts, S, rfl, ⟨⟨t, rfl, hS⟩, hA, hP⟩, q⟩ := h
    have h3 := hP.three
    have h8 := hP.eight
    have hl := hA.len
    refine ⟨_, (pss_cons (ps_asg (pe_tup (pa_cons (pe_tup (pa_cons pe_int (pa_cons pe_int pa_nil))) (pa_cons (pe_tup (pa_cons pe_int (pa_cons pe_int (pa_cons pe_int pa_nil)))) pa_nil))) (pg_tup rfl (pgs_cons (pg_name (i := 1) sc_lmiddle.nd rfl (Or.inl rfl)) (pgs_cons (pg_name (i := 2) sc_lmiddle.nd rfl (Or.inl rfl)) pgs_nil))))
      (pss_cons (ps_for PassesOwn.never rfl (pi_range2 (by rfl) T.range (pa_cons pe_int (pa_cons (pe_op op_sub (pe_callB (r := Ur.rLen K) Ur.len_seq (by rfl) T.len PySem.boot_len (pa_cons (pv 0) pa_nil)) pe_int) pa_nil))) (pg_name (i := 3) sc_lmiddle.nd rfl (Or.inl rfl)) (pss_cons (ps_par (i := 4) (j := 5) rfl sc_lmiddle.nd rfl rfl (by decide) rfl rfl (pa_cons (pe_has H_law_way (hr.mono (by decide)) (by rfl) (pa_cons (pe_ix (r := rIxT K) ix_tup (pv 0) pe_int (fun _ _ => rfl)) (pa_cons (pe_ix (r := rIxT K) ix_tup (pv 0) (pv 3) (fun _ _ => rfl)) pa_nil))) (pa_cons (pe_has H_law_way (hr.mono (by decide)) (by rfl) (pa_cons (pe_ix (r := rIxT K) ix_tup (pv 0) pe_int (fun _ _ => rfl)) (pa_cons (pe_ix (r := rIxT K) ix_tup (pv 0) (pe_op op_add (pv 3) pe_int) (fun _ _ => rfl)) pa_nil))) pa_nil)) (by rfl))
      (pss_cons (ps_set (i := 6) sc_lmiddle.nd rfl (Or.inl rfl) (pe_has H_law_cross (hr.mono (by decide)) (by rfl) (pa_cons (pv 4) (pa_cons (pv 5) pa_nil))))
      (pss_cons (ps_set (i := 1) sc_lmiddle.nd rfl (Or.inl rfl) (pe_has H_law_add (hr.mono (by decide)) (by rfl) (pa_cons (pv 1) (pa_cons (pv 6) pa_nil))))
      (pss_one (ps_set (i := 2) sc_lmiddle.nd rfl (Or.inl rfl) (pe_has H_law_on (hr.mono (by decide)) (by rfl) (pa_cons (pv 2) (pa_cons (pe_has H_law_by (hr.mono (by decide)) (by rfl) (pa_cons (pe_has H_law_on (hr.mono (by decide)) (by rfl) (pa_cons (pv 4) (pa_cons (pv 5) pa_nil))) (pa_cons (pv 6) pa_nil))) pa_nil)))))))))
      (pss_one (ps_ret (pe_has H_law_on (hr.mono (by decide)) (by rfl) (pa_cons (pe_ix (r := rIxT K) ix_tup (pv 0) pe_int (fun _ _ => rfl)) (pa_cons (pe_has H_law_by (hr.mono (by decide)) (by rfl) (pa_cons (pv 2) (pa_cons (pe_has H_law_frac (hr.mono (by decide)) (by rfl) (pa_cons (pe_ix (r := rIxT K) ix_tup (pv 1) pe_int (fun _ _ => rfl)) (pa_cons (pe_op op_mul pe_int (pe_ix (r := rIxT K) ix_tup (pv 1) pe_int (fun _ _ => rfl))) pa_nil))) pa_nil))) pa_nil))))))), ?_⟩
    refine ⟨by show 2 ≤ sizeLine; decide, fun p1 hp1 => ⟨by show 3 ≤ sizeLine; decide, fun p2 hp2 => ⟨by show 2 ≤ sizeLine; decide, fun p3 hp3 => ?_⟩⟩⟩
    refine ⟨p3, _, rfl, SqT.of upd_same, rfl, _, _, rfl, _, _, rfl, rfl, ?_⟩
    have s1 := ((same_new (p := p1) (o := HO.tup [V.int 0, .int 1]) hp1).trans (same_new (p := p2) (o := HO.tup [V.int 0, .int 0, .int 1]) hp2)).trans (same_new (p := p3) (o := HO.tup [V.ref p1, .ref p2]) hp3)
    have t1 : Tp K (upd (upd (upd H p1 (.tup [V.int 0, .int 1])) p2 (.tup [V.int 0, .int 0, .int 1])) p3 (.tup [V.ref p1, .ref p2])) (.ref p1) [0, 1] := ⟨p1, rfl, SqT.of (same_new hp3 _ _ (same_new hp2 _ _ upd_same))⟩
    have t2 : Tp K (upd (upd (upd H p1 (.tup [V.int 0, .int 1])) p2 (.tup [V.int 0, .int 0, .int 1])) p3 (.tup [V.ref p1, .ref p2])) (.ref p2) [0, 0, 1] := ⟨p2, rfl, SqT.of (same_new hp3 _ _ upd_same)⟩
    generalize upd (upd (upd H p1 (.tup [V.int 0, .int 1])) p2 (.tup [V.int 0, .int 0, .int 1])) p3 (.tup [V.ref p1, .ref p2]) = H1 at s1 t1 t2 ⊢
    obtain ⟨a0, ha0⟩ : ∃ a, pts[0]? = some a := ⟨pts[0], List.getElem?_eq_getElem (by omega)⟩
    obtain ⟨x0, hx0⟩ : ∃ x, xs[0]? = some x := ⟨xs[0], List.getElem?_eq_getElem (by omega)⟩
    obtain ⟨X0, Y0, W0, A0⟩ := hP.pol.scb.ok a0 (List.mem_of_getElem? ha0)
    have tx0 := (hA.at_ 0 x0 a0 hx0 ha0).same s1
    have hS1 := same_sqT s1 hS
    have b7 : 100 ≤ 2 ^ 7 := by decide
    refine ⟨_, rfl, t, _, rfl, Or.inr hS1, _, _, rfl, rfl, 1, _, rfl, ⟨by decide, by decide, ?_, ?_⟩, ?_⟩
    · rw [hl]; omega
    · rw [hl]; omega
    · refine for_range (lo := 1) (n := ((xs.length : Int) - 1 - 1).toNat) (fun j σ H' => ∃ (vt vs : V) (o3 o4 o5 o6 : Option V) (A B : List Int) (x y w' tt' ee : Int), σ = [some (.ref t), some vt, some vs, o3, o4, o5, o6] ∧ Same H1 H' ∧ Tp K H' vt A ∧ Tp K H' vs B ∧ FrL (2 ^ (32 * j)) A tt' ee ∧ PtL (2 ^ (63 * j)) B x y w' ∧ 0 ≤ tt' ∧ (0 < j → 0 < tt')) ?_ ?_ ?_
      · exact ⟨.ref p1, .ref p2, none, none, none, none, [0, 1], [0, 0, 1], 0, 0, 1, 0, 1, rfl, Same.refl _, t1, t2, ⟨rfl, by decide, by decide, by decide, by decide⟩, ⟨rfl, by decide, by decide, by decide, by decide, by decide⟩, by decide, fun h => absurd h (by decide)⟩
      · rintro j σ H' hj ⟨vt, vs, o3, o4, o5, o6, A, B, x, y, w', tt', ee, rfl, sm, ht, hs, FA, PB, h0, hp⟩
        have hj6 : j + 2 < pts.length := by
          rw [hl] at hj
          omega
        obtain ⟨ab, hab⟩ : ∃ a, pts[j + 1]? = some a := ⟨pts[j + 1], List.getElem?_eq_getElem (by omega)⟩
        obtain ⟨ac, hac⟩ : ∃ a, pts[j + 2]? = some a := ⟨pts[j + 2], List.getElem?_eq_getElem (by omega)⟩
        obtain ⟨xb, hxb⟩ : ∃ x, xs[j + 1]? = some x := ⟨xs[j + 1], List.getElem?_eq_getElem (by omega)⟩
        obtain ⟨xc, hxc⟩ : ∃ x, xs[j + 2]? = some x := ⟨xs[j + 2], List.getElem?_eq_getElem (by omega)⟩
        obtain ⟨XB, YB, WB', AB⟩ := hP.pol.scb.ok ab (List.mem_of_getElem? hab)
        obtain ⟨XC, YC, WC, AC⟩ := hP.pol.scb.ok ac (List.mem_of_getElem? hac)
        have txb := ((hA.at_ _ xb ab hxb hab).same s1).same sm
        have txc := ((hA.at_ _ xc ac hxc hac).same s1).same sm
        have tx0' := tx0.same sm
        have hS2 := same_sqT sm hS1
        have k1 : (1 : Int) + (j : Nat) = ((j + 1 : Nat) : Int) := by omega
        have k2 : (1 : Int) + (j : Nat) + 1 = ((j + 2 : Nat) : Int) := by omega
        obtain ⟨g1, d1, d2, d3, _, _, _, _, DW⟩ := pt_way A0 AB
        obtain ⟨g2, e1, e2, e3, _, _, _, _, EW⟩ := pt_way A0 AC
        obtain ⟨g3, f1, f3, _, _, _, GW⟩ := fr_crs DW EW
        obtain ⟨t9, e9, he9, hsg⟩ := side_is A0 AB AC
        have hpos := fan_pos hP.pol ha0 hab hac
        have hf1 : 0 < f1 := by
          have e := GW.eq.symm.trans he9
          have : f1 = t9 := (List.cons.inj e).1
          rw [← hsg] at hpos
          rw [this]
          unfold sgn at hpos
          split at hpos
          · assumption
          · split at hpos <;> omega
        have q15 : 100 * 100 + 100 * 100 ≤ 2 ^ 15 := by decide
        have DW := DW.up q15
        have EW := EW.up q15
        have GW : FrL (2 ^ 31) _ _ _ := GW.up (by decide : (100 * 100 + 100 * 100) * (100 * 100 + 100 * 100) + (100 * 100 + 100 * 100) * (100 * 100 + 100 * 100) ≤ 2 ^ 31)
        obtain ⟨g4, t', e', g40, r1, r2, TW⟩ := fr_add FA GW
        have TW : FrL (2 ^ (32 * (j + 1))) _ _ _ := TW.up (Nat.le_trans (pw2 (Nat.le_refl _) (Nat.le_refl _)) (pup (by omega)))
        obtain ⟨g5, o1, o2, o3', _, _, _, _, OW⟩ := pt_sum DW EW
        have OW : PtL (2 ^ 31) _ _ _ _ := OW.up (by decide : 2 ^ 15 * 2 ^ 15 + 2 ^ 15 * 2 ^ 15 ≤ 2 ^ 31)
        obtain ⟨g6, u1, u2, u3, _, _, _, _, UW⟩ := pt_by OW GW
        have UW : PtL (2 ^ 62) _ _ _ _ := UW.up (by decide : 2 ^ 31 * 2 ^ 31 ≤ 2 ^ 62)
        obtain ⟨g7, z1, z2, z3, _, _, _, _, ZW⟩ := pt_sum PB UW
        have ZW : PtL (2 ^ (63 * (j + 1))) _ _ _ _ := ZW.up (Nat.le_trans (pw2 (Nat.le_refl _) (Nat.le_refl _)) (pup (by omega)))
        have ht' : 0 < t' := by
          have h2 : 0 ≤ tt' * f3 := Int.mul_nonneg h0 (Int.le_of_lt GW.pos)
          have h3 : 0 < f1 * ee := Int.mul_pos hf1 FA.pos
          exact pos_of g40 (by rw [← r1]; omega)
        refine ⟨_, rfl, t, _, 0, x0, rfl, rfl, hS2, atI_nat (j := 0) hx0, _, rfl, _, rfl, t, _, _, xb, rfl, rfl, hS2, by rw [k1]; exact atI_nat hxb, x0, xb, a0, ab, _, _, _, _, _, _, 100, 100, rfl, tx0', txb, A0, AB, w100, w100, fun v1 H3 s3 tv1 => ?_⟩
        refine ⟨_, rfl, t, _, 0, x0, rfl, rfl, same_sqT s3 hS2, atI_nat (j := 0) hx0, _, rfl, _, rfl, _, _, rfl, rfl, t, _, _, xc, rfl, rfl, same_sqT s3 hS2, by rw [k2]; exact atI_nat hxc, x0, xc, a0, ac, _, _, _, _, _, _, 100, 100, rfl, tx0'.same s3, txc.same s3, A0, AC, w100, w100, fun v2 H4 s4 tv2 => ⟨v1, v2, rfl, ?_⟩⟩
        have tv1' := tv1.same s4
        refine ⟨_, rfl, _, rfl, v1, v2, _, _, _, _, _, _, _, _, _, _, rfl, tv1', tv2, DW, EW, pwb (by decide), pwb (by decide), fun v3 H5 s5 tv3 => ?_⟩
        refine ⟨_, rfl, _, rfl, vt, v3, _, _, _, _, _, _, _, _, rfl, (ht.same ((s3.trans s4).trans s5)), tv3, FA, GW, pwb (by omega), pwb (by decide), fun v4 H6 s6 tv4 => ?_⟩
        refine ⟨_, rfl, _, rfl, _, rfl, v1, v2, _, _, _, _, _, _, _, _, _, _, rfl, (tv1'.same s5).same s6, (tv2.same s5).same s6, DW, EW, pwb (by decide), pwb (by decide), fun v5 H7 s7 tv5 => ?_⟩
        refine ⟨_, rfl, v5, v3, _, _, _, _, _, _, _, _, _, rfl, tv5, (tv3.same s6).same s7, OW, GW, pwb (by decide), pwb (by decide), fun v6 H8 s8 tv6 => ?_⟩
        have sall := ((((s3.trans s4).trans s5).trans s6).trans s7).trans s8
        refine ⟨vs, v6, _, _, _, _, _, _, _, _, _, _, rfl, hs.same sall, tv6, PB, UW, pwb (by omega), pwb (by decide), fun v7 H9 s9 tv7 => ?_⟩
        exact ⟨v4, v7, _, _, _, _, _, _, _, _, _, _, _, rfl, sm.trans (sall.trans s9), ((tv4.same s7).same s8).same s9, tv7, TW, ZW, Int.le_of_lt ht', fun _ => ht'⟩
      · rintro σ H' ⟨vt, vs, o3, o4, o5, o6, A, B, x, y, w', tt', ee, rfl, sm, ht, hs, FA, PB, h0, hp⟩
        have en : ((xs.length : Int) - 1 - 1).toNat = pts.length - 2 := by rw [hl]; omega
        rw [en] at FA PB hp
        have hp := hp (by omega)
        have FA : FrL (2 ^ 192) _ _ _ := FA.up (pup (by omega))
        have PB : PtL (2 ^ 378) _ _ _ _ := PB.up (pup (by omega))
        have ef := FA.eq
        subst ef
        obtain ⟨ta, rfl, sa⟩ := ht
        have hS2 := same_sqT sm hS1
        have b194 : ee.natAbs ≤ 2 ^ 194 ∧ (3 * tt').natAbs ≤ 2 ^ 194 := by
          have h1 := FA.bt
          have h2 := FA.bb
          have h3 : (2 : Nat) ^ 194 = 4 * 2 ^ 192 := by decide
          omega
        obtain ⟨g1, i1, i2, _, _, _, IW⟩ := fr_thin (x := ee) (w := 3 * tt') (n := 2 ^ 194) (by omega) b194.1 b194.2
        obtain ⟨g2, j1, j2, j3, _, _, _, _, JW⟩ := pt_by PB IW
        have JW : PtL (2 ^ 572) _ _ _ _ := JW.up (Nat.le_trans (pw1 (Nat.le_refl _) (Nat.le_refl _)) (pup (by decide)))
        obtain ⟨g3, l1, l2, l3, _, _, _, _, LW⟩ := pt_sum A0 JW
        have LW : PtL (2 ^ 600) _ _ _ _ := LW.up (Nat.le_trans (pw2 b7 (Nat.le_refl _)) (pup (by decide)))
        have w194 : ∀ {z : Nat}, z ≤ 2 ^ 194 → z ≤ W2 := fun h => Nat.le_trans h (by unfold W2; exact pup (by decide))
        refine ⟨_, rfl, t, _, 0, x0, rfl, rfl, hS2, atI_nat (j := 0) hx0, _, rfl, _, rfl, ta, _, 1, _, rfl, rfl, sa, rfl, _, rfl, ta, _, 0, _, rfl, rfl, sa, rfl, _, _, rfl, rfl, Or.inl ⟨by decide, by decide⟩, _, _, rfl, by omega, w194 b194.1, w194 b194.2, fun v1 H3 s3 tv1 => ?_⟩
        refine ⟨vs, v1, _, _, _, _, _, _, _, _, _, rfl, hs.same s3, tv1, PB, IW, pwb (by decide), pwb (by decide), fun v2 H4 s4 tv2 => ?_⟩
        exact ⟨x0, v2, a0, _, _, _, _, _, _, _, _, _, rfl, ((tx0.same sm).same s3).same s4, tv2, A0, JW, w100, pwb (by decide), fun v3 H5 s5 tv3 => q v3 _ _ _ _ H5 ((s1.trans sm).trans ((s3.trans s4).trans s5)) tv3 LW⟩
end
end K8

namespace K8
open PySem L2 Ur Hull
theorem dr_thin {x y : Int} {n : Nat} (h0 : ¬ (x = 0 ∧ y = 0)) (hx : x.natAbs ≤ n) (hy : y.natAbs ≤ n) : ∃ c s, DrL n (thin [x, y]) c s := by
  have hg : 0 < gAll [x, y] := by
    rw [gAll_2]
    rcases Nat.eq_zero_or_pos (Nat.gcd x.natAbs y.natAbs) with h | h
    · rw [Nat.gcd_eq_zero_iff] at h
      exact absurd ⟨by omega, by omega⟩ h0
    · exact h
  have e := thin_eq hg
  obtain ⟨p, hp⟩ := ex_div (g := gAll [x, y]) (x := x) (by rw [gAll_2]; exact Nat.gcd_dvd_left _ _)
  obtain ⟨r, hr⟩ := ex_div (g := gAll [x, y]) (x := y) (by rw [gAll_2]; exact Nat.gcd_dvd_right _ _)
  have h3 := gAll_2 x y
  generalize gAll [x, y] = g at *
  have hg' : (g : Int) ≠ 0 := by omega
  refine ⟨p, r, ?_, ?_, abs_le (by omega) (hp ▸ hx), abs_le (by omega) (hr ▸ hy)⟩
  · rw [e]
    show [x / (g : Int), y / (g : Int)] = _
    rw [hp, hr, Int.mul_ediv_cancel_left _ hg', Int.mul_ediv_cancel_left _ hg']
  · rw [hp, hr, Int.natAbs_mul, Int.natAbs_mul, Int.natAbs_natCast, Nat.gcd_mul_left] at h3
    have : g * 1 = g * Nat.gcd p.natAbs r.natAbs := by rw [Nat.mul_one]; exact h3
    exact (Nat.eq_of_mul_eq_mul_left hg this).symm
def spMass (K : PySem.W.Frag) : Sp := fun vs H Q _ => ∃ (u : Addr) (v : V) (xs : List V) (pts : List (List Int)) (S : Nat), vs = [.ref u, v] ∧ H u = some (UrnO u) ∧ SecV K H v xs pts S ∧ ∀ (p : V) (a : List Int) (x y w : Int) (H' : Hp), Same H H' → Tp K H' p a → PtL (2 ^ 700) a x y w → Q p H'
def spAim (K : PySem.W.Frag) : Sp := fun vs H Q _ => ∃ (u : Addr), vs = [.ref u] ∧ H u = some (UrnO u) ∧ ∀ (p : V) (a : List Int) (c s : Int) (H' : Hp), Same H H' → Tp K H' p a → DrL 9 a c s → Q p H'
section
variable {P' : Program} {w : World} {K :
      PySem.W.Frag} {mg : Str → Option Value} {base : Heap}
abbrev n_lmass : List Str := ["_law_urn_here", "_law_plate_here", "_law_kind", "_law_step"]
abbrev p_lmass : List Str := ["_law_urn_here", "_law_plate_here"]
theorem sc_lmass : FnScope n_lmass p_lmass (defScope sLMass) := ⟨rfl, rfl, rfl, by decide +kernel, rfl, by decide +kernel, by decide +kernel⟩
theorem ok_lmass {f : Addr} {fd : FuncData} (F : Fun K "_law_mass" "_law_mass" sLMass f fd) (H_law_pull : Has P' w K mg base "_law_pull" ["_law_urn_here", "_law_many"] 1 spPull) (H_law_middle : Has P' w K mg base "_law_middle" p_lspots 5 (spMid K)) (H_law_spot : Has P' w K mg base "_law_spot" p_lspot 3 (spN3 K))
    (H_law_num : Has P' w K mg base "_law_num" p_law_num 2 spNum) (H_law_on : Has P' w K mg base "_law_on" p_lon 4 (spP2 K sumL)) : FnOk P' w K mg base CX0 6 f fd p_lmass (spMass K) := by
  refine F.ok sc_lmass (fun vs H Q E h => ?_) (fun cdv A outer s H vs Q E hr h => ?_)
  · obtain ⟨_, _, _, _, _, rfl, _⟩ := h
    rfl
  · obtain ⟨u, v, xs, pts, S, rfl, hu, hV, q⟩ := h
    refine ⟨_, (pss_cons (ps_set (i := 2) sc_lmass.nd rfl (Or.inl rfl) (pe_has H_law_pull (hr.mono (by decide)) (by rfl) (pa_cons (pv 0) (pa_cons pe_int pa_nil))))
      (pss_cons (ps_if (pt_cmpR op_eq (pv 2) pe_int (nomark _)) (pss_one (ps_ret (pe_has H_law_middle (hr.mono (by decide)) (by rfl) (pa_cons (pv 1) pa_nil)))) pss_nil)
      (pss_cons (ps_set (i := 3) sc_lmass.nd rfl (Or.inl rfl) (pe_has H_law_spot (hr.mono (by decide)) (by rfl) (pa_cons (pe_has H_law_num (hr.mono (by decide)) (by rfl) (pa_cons (pv 0) (pa_cons pe_int pa_nil))) (pa_cons (pe_has H_law_num (hr.mono (by decide)) (by rfl) (pa_cons (pv 0) (pa_cons pe_int pa_nil))) (pa_cons (pe_op op_add pe_int (pe_has H_law_pull (hr.mono (by decide)) (by rfl) (pa_cons (pv 0) (pa_cons pe_int pa_nil)))) pa_nil)))))
      (pss_one (ps_ret (pe_ifExp (pt_cmpR op_eq (pv 2) pe_int (nomark _)) (pe_has H_law_on (hr.mono (by decide)) (by rfl) (pa_cons (pe_has H_law_middle (hr.mono (by decide)) (by rfl) (pa_cons (pv 1) pa_nil)) (pa_cons (pv 3) pa_nil))) (pv 3))))))), ?_⟩
    refine ⟨_, rfl, u, 4, rfl, hu, by decide, by decide, fun k H1 k0 k1 s1 => ?_⟩
    refine ⟨_, rfl,
          rfl, _, rfl, ?_⟩
    have up : 2 ^ 600 ≤ 2 ^ 700 := pup (by decide)
    refine ite2 (fun _
          => ?_) (fun _ => ?_)
    · exact ⟨_, rfl, v, xs, pts, S, rfl, hV.same s1, fun p a x y w' H2 s2 tp A => q p a x y w' H2 (s1.trans s2) tp (A.up up)⟩
    · refine ⟨_, rfl, u, 5, rfl, s1 _ _ hu, by decide, by decide, fun x H2 x0 x1 s2 => ?_⟩
      refine ⟨_, rfl, u, 5, rfl, s2 _ _ (s1 _ _ hu), by decide, by decide, fun y H3 y0 y1 s3 => ?_⟩
      refine ⟨_, rfl, u, 4, rfl, s3 _ _ (s2 _ _ (s1 _ _ hu)), by decide, by decide, fun z H4 z0 z1 s4 => ?_⟩
      have w5 : ∀ {n : Nat}, n ≤ 5 → n ≤ W2 := fun h => Nat.le_trans h (Nat.le_trans (by decide : 5 ≤ 2 ^ 3) (by unfold W2; exact pup (by decide)))
      refine ⟨_, _, rfl, rfl, x, y, 1 + z, rfl, by omega, w5 (by omega), w5 (by omega), w5 (by omega), fun p H5 s5 tp => ?_⟩
      obtain ⟨_, _, _, _, _, _, _, _, PT⟩ := pt_thin (x := x) (y := y) (w := 1 + z) (n := 5) (by omega) (by omega) (by omega) (by omega)
      have s15 := (((s1.trans s2).trans s3).trans s4).trans s5
      refine ⟨_, rfl,
            rfl, _, rfl, ?_⟩
      refine ite2 (fun _
            => ?_) (fun _ => ?_)
      · refine ⟨_, rfl, v, xs, pts, S, rfl, hV.same s15, fun p2 a x y w' H6 s6 tp2 A => ?_⟩
        obtain ⟨_, _, _, _, _, _, _, _, ZW⟩ := pt_sum A PT
        exact ⟨_, rfl, p2, p, _, _, _, _, _, _, _, _, _, _, rfl, tp2, tp.same s6, A, PT, pwb (by decide), Nat.le_trans (by decide : 5 ≤ 2 ^ 3) (pwb (by decide)), fun p3 H7 s7 tp3 => q p3 _ _ _ _ H7 ((s15.trans s6).trans s7) tp3 (ZW.up (Nat.le_trans (pw2 (Nat.le_refl _) (by decide : 5 ≤ 2 ^ 3)) (pup (by decide))))⟩
      · exact ⟨_, rfl, q p _ _ _ _ H5 s15 tp (PT.up (Nat.le_trans (by decide : 5 ≤ 2 ^ 3) (pup (by decide))))⟩
abbrev n_laim : List Str := ["_law_urn_here", "_law_high", "_law_pair"]
abbrev p_lurn : List Str := ["_law_urn_here"]
theorem sc_laim : FnScope n_laim p_lurn (defScope sLAim) := ⟨rfl, rfl, rfl, by decide +kernel, rfl, by decide +kernel, by decide +kernel⟩
theorem ok_laim {f : Addr} {fd : FuncData} (F : Fun K "_law_aim" "_law_aim" sLAim f fd) (H_law_any : Has P' w K mg base "_law_any" p_law_any 2 spAny) (H_law_num : Has P' w K mg base "_law_num" p_law_num 2 spNum) (H_law_thin : Has P' w K mg base "_law_thin" p_law_thin 2 (spThin K)) : FnOk P' w K mg base CX0 3 f fd p_lurn (spAim K) := by
  refine F.ok sc_laim (fun vs H Q E h => ?_) (fun cdv A outer s H vs Q E hr h => ?_)
  · obtain ⟨_, rfl, _⟩ := h
    rfl
  · obtain ⟨u, rfl, hu, q⟩ := h
    have hu0 := hu
    have hu : (A.deeper (PyProof.Rows.envOfC "_law_aim" (defScope sLAim) s.heap.objs.size f cdv)).units + 64 < cLine := hr.units
    refine ⟨_, (pss_cons (ps_set (i := 1) sc_laim.nd rfl (Or.inl rfl) (pe_has H_law_any (hr.mono (by decide)) (by rfl) (pa_cons (pv 0) (pa_cons (pe_lst (pa_cons pe_int (pa_cons pe_int (pa_cons pe_int (pa_cons pe_int (pa_cons pe_int pa_nil)))))) pa_nil))))
      (pss_cons (ps_set (i := 2) sc_laim.nd rfl (Or.inl rfl) (pe_tup (pa_cons (pe_has H_law_num (hr.mono (by decide)) (by rfl) (pa_cons (pv 0) (pa_cons (pv 1) pa_nil))) (pa_cons (pe_has H_law_num (hr.mono (by decide)) (by rfl) (pa_cons (pv 0) (pa_cons (pv 1) pa_nil))) pa_nil))))
      (pss_one (ps_ret (pe_ifExp (pt_cmpR (neD_K (K := K) rfl hu) (pv 2) (pe_tup (pa_cons pe_int (pa_cons pe_int pa_nil))) (nomark _)) (pe_has H_law_thin (hr.mono (by decide)) (by rfl) (pa_cons (pv 2) pa_nil)) (pe_has H_law_any (hr.mono (by decide)) (by rfl) (pa_cons (pv 0) (pa_cons (pe_lst (pa_cons (pe_tup (pa_cons pe_int (pa_cons pe_int pa_nil))) (pa_cons (pe_tup (pa_cons pe_int (pa_cons pe_int pa_nil))) (pa_cons (pe_tup (pa_cons pe_int (pa_cons (pe_un un_neg pe_int) pa_nil))) (pa_cons (pe_tup (pa_cons (pe_un un_neg pe_int) (pa_cons pe_int pa_nil))) pa_nil))))) pa_nil)))))))), ?_⟩
    refine ⟨_, rfl, by show 5 ≤ sizeLine; decide, fun l hl => ⟨u, l, _, rfl, same_new hl _ _ hu0, upd_same, by decide, by decide, fun x H1 hx s1 => ?_⟩⟩
    obtain ⟨h, rfl, h0, h1⟩ := menu (l := [1, 1, 2, 5, 9]) (lo := 1) (hi := 9) hx (by decide)
    have s01 := (same_new (p := l) (o := HO.lst [V.int 1, .int 1, .int 2, .int 5, .int 9]) hl).trans s1
    refine ⟨_, rfl, _, rfl, u, h, rfl, s01 _ _ hu0, by omega, by omega, fun r H2 r0 r1 s2 => ?_⟩
    have s02 := s01.trans s2
    refine ⟨_, rfl, _, rfl, u, h, rfl, s02 _ _ hu0, by omega, by omega, fun r' H3 r0' r1' s3 => ⟨by show 2 ≤ sizeLine; decide, fun p hp => ?_⟩⟩
    have s03 := (s02.trans s3).trans (same_new (p := p) (o := HO.tup [V.int r, .int r']) hp)
    have tp : (upd H3 p (.tup [V.int r, .int r'])) p = some (.tup [V.int r, .int r']) := upd_same
    generalize upd H3 p (.tup [V.int r, .int r']) = H4 at s03 tp ⊢
    refine ⟨_, rfl, by show 2 ≤ sizeLine; decide, fun p0 hp0 => ?_⟩
    have s04 := s03.trans (same_new (p := p0) (o := HO.tup [V.int 0, .int 0]) hp0)
    have tp4 := same_new (p := p0) (o := HO.tup [V.int 0, .int 0]) hp0 _ _ tp
    have tz : (upd H4 p0 (.tup [V.int 0, .int 0])) p0 = some (.tup [V.int 0, .int 0]) := upd_same
    generalize upd H4 p0 (.tup [V.int 0, .int 0]) = H5 at s04 tp4 tz ⊢
    refine ⟨_, _, dp_ints (ns := [r, r']) (SqT.of tp4), dp_ints (ns := [0, 0]) (SqT.of tz), shaped_ints _, shaped_ints _, _, rfl, ?_⟩
    rw [eqv_ints]
    refine ite2 (fun c
          => ?_) (fun c => ?_)
    · have hne : ¬ (r = 0 ∧ r' = 0) := by
        rintro ⟨rfl, rfl⟩
        simp at c
      obtain ⟨c', s', D⟩ := dr_thin (n := 9) hne (by omega) (by omega)
      refine ⟨_, rfl, p, [r, r'], rfl, SqT.of tp4, by simp, fun n hn => ?_, fun p2 H6 s6 t6 => q _ _ c' s' H6 (s04.trans s6) ⟨p2, rfl, t6⟩ D⟩
      simp only [List.mem_cons, List.not_mem_nil, or_false] at hn
      have b : n.natAbs ≤ 9 := by rcases hn with rfl | rfl <;> omega
      exact Nat.lt_of_le_of_lt b (Nat.lt_of_lt_of_le (by decide : 9 < 2 ^ 4) (pup (by decide)))
    · refine ⟨_, rfl, by show 2 ≤ sizeLine; decide, fun a1 ha1 => ⟨by show 2 ≤ sizeLine; decide, fun a2 ha2 => ?_⟩⟩
      refine ⟨1, rfl, by show 2 ≤ sizeLine; decide, fun a3 ha3 => ⟨1, rfl, by show 2 ≤ sizeLine; decide, fun a4 ha4 => ⟨by show 4 ≤ sizeLine; decide, fun l2 hl2 => ?_⟩⟩⟩
      have e1 := same_new (p := a1) (o := HO.tup [V.int 0, .int 1]) ha1
      have e2 := same_new (p := a2) (o := HO.tup [V.int 1, .int 0]) ha2
      have e3 := same_new (p := a3) (o := HO.tup [V.int 0, .int (-1)]) ha3
      have e4 := same_new (p := a4) (o := HO.tup [V.int (-1), .int 0]) ha4
      have e5 := same_new (p := l2) (o := HO.lst [V.ref a1, .ref a2, .ref a3, .ref a4]) hl2
      have g1 := e5 _ _ (e4 _ _ (e3 _ _ (e2 _ _ (upd_same (a := a1) (o := HO.tup [V.int 0, .int 1])))))
      have g2 := e5 _ _ (e4 _ _ (e3 _ _ (upd_same (a := a2) (o := HO.tup [V.int 1, .int 0]))))
      have g3 := e5 _ _ (e4 _ _ (upd_same (a := a3) (o := HO.tup [V.int 0, .int (-1)])))
      have g4 := e5 _ _ (upd_same (a := a4) (o := HO.tup [V.int (-1), .int 0]))
      have sall := s04.trans ((((e1.trans e2).trans e3).trans e4).trans e5)
      refine ⟨u, l2, _, rfl, sall _ _ hu0, upd_same, by simp, by simp, fun x H9 hx9 s9 => ?_⟩
      simp only [List.mem_cons, List.not_mem_nil, or_false] at hx9
      rcases hx9 with rfl | rfl | rfl | rfl
      · exact q _ [0, 1] 0 1 H9 (sall.trans s9) ⟨_, rfl, SqT.of (s9 _ _ g1)⟩ ⟨rfl, by decide, by decide, by decide⟩
      · exact q _ [1, 0] 1 0 H9 (sall.trans s9) ⟨_, rfl, SqT.of (s9 _ _ g2)⟩ ⟨rfl, by decide, by decide, by decide⟩
      · exact q _ [0, -1] 0 (-1) H9 (sall.trans s9) ⟨_, rfl, SqT.of (s9 _ _ g3)⟩ ⟨rfl, by decide, by decide, by decide⟩
      · exact q _ [-1, 0] (-1) 0 H9 (sall.trans s9) ⟨_, rfl, SqT.of (s9 _ _ g4)⟩ ⟨rfl, by decide, by decide, by decide⟩
end
end K8

namespace K8
open PySem L2 Ur Hull
/-! ### hulls do not ask for the scale -/
def hullL (L : Nat) (pts : List (List Int)) : List (List Int) := (hl (pts.map (fsc L))).map fun p => thin [p.1, p.2, (L : Nat)]
theorem hullL_map {L : Nat} (h0 : 0 < L) {pts : List (List Int)} (h : ∀ p ∈ pts, Pk L p) : (hullL L pts).map (fsc L) = hl (pts.map (fsc L)) := by
  unfold hullL
  rw [List.map_map]
  conv => rhs; rw [← List.map_id (hl (pts.map (fsc L)))]
  refine List.map_congr_left fun q hq => ?_
  obtain ⟨p, hp, rfl⟩ := List.mem_map.mp (hl_sub hq)
  have := pk_back h0 (h p hp)
  show fsc L (thin [(fsc L p).1, (fsc L p).2, (L : Nat)]) = fsc L p
  rw [this]
theorem hullL_mem {L : Nat} (h0 : 0 < L) {pts : List (List Int)} (h : ∀ p ∈ pts, Pk L p) {p : List Int} (hp : p ∈ hullL L pts) : p ∈ pts := by
  unfold hullL at hp
  obtain ⟨q, hq, rfl⟩
        := List.mem_map.mp hp
  obtain ⟨p, hp2, rfl⟩ := List.mem_map.mp (hl_sub hq)
  rw [pk_back h0 (h p hp2)]
  exact hp2
theorem list_back {L : Nat} (h0 : 0 < L) : ∀ {A B : List (List Int)}, (∀ p ∈ A, Pk L p) → (∀ p ∈ B, Pk L p) → A.map (fsc L) = B.map (fsc L) → A = B
  | [], [], _, _, _ => rfl
  | [], _ :: _, _, _, e => nomatch e
  | _ :: _, [], _, _, e => nomatch e
  | a :: A, b :: B, ha, hb, e => by
    rw [List.map_cons,
          List.map_cons] at e
    have e1 := (List.cons.inj e).1
    have e2 := (List.cons.inj e).2
    rw [pk_inj h0 (ha a List.mem_cons_self) (hb b List.mem_cons_self) e1, list_back h0 (fun p hp => ha p (List.mem_cons_of_mem _ hp)) (fun p hp => hb p (List.mem_cons_of_mem _ hp)) e2]
theorem fsc_sc {L M : Nat} {k : Int} (hM : 0 < M) (hk : (L : Int) = M * k) {p : List Int} (h : Pk M p) : fsc L p = sc k (fsc M p) := by
  obtain ⟨x, y, w, j, A, j0, hMj, e⟩ := pk_form hM h
  have ep := A.eq
  subst ep
  rw [e]
  show (x * ((L : Int) / w), y * ((L : Int) / w)) = (k * (x * j), k * (y * j))
  have : (L : Int) / w = j * k := by
    rw [hk, hMj, Int.mul_assoc, Int.mul_ediv_cancel_left _ (by have := A.pos; omega)]
  rw [this]
  have h1 : x * (j * k) = k * (x * j) := by grind
  have h2 : y * (j * k) = k * (y * j) := by grind
  rw [h1, h2]
theorem hullL_indep {L : Nat} (h0 : 0 < L) {pts : List (List Int)} (h : ∀ p ∈ pts, Pk L p) : hullL L pts = hullOf pts := by
  have hd : scl pts ∣ L := scl_dvd fun p hp => (h p hp).dv
  obtain ⟨k, hk⟩ := hd
  have hM : 0 < scl pts := Nat.pos_of_dvd_of_pos ⟨k, hk⟩ h0
  have k0 : 0 < (k : Int) := by
    rcases Nat.eq_zero_or_pos k with z | z
    · rw [z, Nat.mul_zero] at hk; omega
    · omega
  have hkI : (L : Int) = (scl pts : Nat) * (k : Int) := by rw [← Int.natCast_mul, ← hk]
  have hM' : ∀ p ∈ pts, Pk (scl pts) p := fun p hp => ⟨(h p hp).pt, scl_has hp⟩
  have e1 : hullOf pts = hullL (scl pts) pts := rfl
  rw [e1]
  have m1 : ∀ p ∈ hullL L pts, Pk L p := fun p hp => h p (hullL_mem h0 h hp)
  have m2 : ∀ p ∈ hullL (scl pts) pts, p ∈ pts := fun p hp => hullL_mem hM hM' hp
  refine list_back h0 m1 (fun p hp => h p (m2 p hp)) ?_
  rw [hullL_map h0 h]
  have e2 : pts.map (fsc L) = (pts.map (fsc (scl pts))).map (sc k) := by
    rw [List.map_map]
    exact List.map_congr_left fun p hp => fsc_sc hM hkI (hM' p hp)
  rw [e2]
  show hull gone (ascOf _) = _
  rw [Hull.sc_hull k0]
  have e3 : (hullL (scl pts) pts).map (fsc L) = ((hullL (scl pts) pts).map (fsc (scl pts))).map (sc k) := by
    rw [List.map_map]
    exact List.map_congr_left fun p hp => fsc_sc hM hkI (hM' p (m2 p hp))
  rw [e3, hullL_map hM hM']
  rfl
theorem hull_pol {L : Nat} (h0 : 0 < L) (h1 : L < 2 ^ 60) {pts : List (List Int)} (hf : pts.length ≤ 1000) (h : ∀ p ∈ pts, Pk L p) : Pol (hullL L pts) L := by
  have hm : ∀ p ∈ hullL L pts, Pk L p := fun p hp => h p (hullL_mem h0 h hp)
  refine ⟨⟨?_, fun p hp => (hm p hp).pt, fun p hp => (hm p hp).dv, h0, h1⟩, ?_⟩
  · unfold hullL
    rw [List.length_map]
    have := hl_len (pts.map (fsc L))
    rw [List.length_map] at this
    omega
  · rw [← hullL_indep h0 hm]
    refine list_back h0 (fun p hp => hm p (hullL_mem h0 hm hp)) hm ?_
    rw [hullL_map h0 hm, hullL_map h0 h, hl_hl]
theorem hullL_len {L : Nat} (pts : List (List Int)) : (hullL L pts).length ≤ pts.length := by
  unfold hullL
  rw [List.length_map]
  have := hl_len (pts.map (fsc L))
  rwa [List.length_map] at this
theorem hullI_L {L : Nat} (h0 : 0 < L) {its : List Im} (h : ∀ m ∈ its, Pk L m.2) : (hullI L its).map Prod.snd = hullL L (its.map Prod.snd) := by
  have e1 : (hullI L its).map (keyI L) = hl ((its.map Prod.snd).map (fsc L)) := by
    unfold hullI
    rw [← hull_map (t := tI L) (u := gone) (g := keyI L) (fun _ _ _ => rfl), sortI_key h0 h]
    have : its.map (keyI L) = (its.map Prod.snd).map (fsc L) := by rw [List.map_map]; rfl
    rw [this]
    rfl
  unfold hullL
  rw [← e1, List.map_map]
  refine List.map_congr_left fun m hm => ?_
  exact (pk_back h0 (h m (sortI_mem (hull_mem' hm)))).symm
/-- what a law's hull hands back is a section, if it has three corners -/
theorem hullI_sec {K : PySem.W.Frag} {H : Hp} {L : Nat} (h0 : 0 < L) (h1 : L < 2 ^ 60) {its : List Im} (h : ∀ m ∈ its, Tp K H m.1 m.2 ∧ Pk L m.2) (h8 : its.length ≤ 8) (h3 : 3 ≤ (hullI L its).length) {r : Addr} (hr : SqT K H r ((hullI L its).map Prod.fst)) :
    SecV K H (.ref r) ((hullI L its).map Prod.fst) (hullL L (its.map Prod.snd)) L := by
  have e := hullI_L h0 (its := its) fun m hm => (h m hm).2
  have hp : ∀ p ∈ its.map Prod.snd, Pk L p := fun p hp => by
    obtain ⟨m, hm, rfl⟩ := List.mem_map.mp hp
    exact (h m hm).2
  have hl' := hullL_len (L := L) (its.map Prod.snd)
  rw [List.length_map] at hl'
  refine ⟨⟨r, rfl, hr⟩, ⟨by rw [← e, List.length_map, List.length_map], fun i y p hy hp => ?_⟩, hull_pol h0 h1 (by rw [List.length_map]; omega) hp, ?_, by omega⟩
  · rw [← e, List.getElem?_map] at hp
    rw [List.getElem?_map] at hy
    cases hm : (hullI L its)[i]? with
    | none => rw [hm] at hp; cases hp
    | some m =>
      rw [hm] at hp hy
      have e1 := Option.some.inj hp
      have e2 := Option.some.inj hy
      rw [← e1, ← e2]
      exact (h m (sortI_mem (hull_mem' (List.mem_of_getElem? hm)))).1
  · rw [← e, List.length_map]
    exact h3
/-! ### a quarter turn leaves three corners -/
theorem flat_of {l : List P} (hne : l ≠ []) (h : (hl l).length < 3) : ∃ c s : Int, ¬ (c = 0 ∧ s = 0) ∧ ∀ q ∈ l, ∀ q' ∈ l, ht c s q = ht c s q' := by
  have key : ∀ {c s v : Int}, (∀ d ∈ hl l, ht c s d = v) → ∀ q ∈ l, ht c s q = v := by
    intro c s v hv q hq
    obtain ⟨d, hd, k1⟩ := hl_min c s hq
    obtain ⟨d', hd', k2⟩ := hl_min (-c) (-s) hq
    have e1 := hv d hd
    have e2 := hv d' hd'
    have n1 : ht (-c) (-s) d' = - ht c s d' := by unfold ht; grind
    have n2 : ht (-c) (-s) q = - ht c s q := by unfold ht; grind
    omega
  have fin : ∀ {c s v : Int}, ¬ (c = 0 ∧ s = 0) → (∀ d ∈ hl l, ht c s d = v) → ∃ c s : Int, ¬ (c = 0 ∧ s = 0) ∧ ∀ q ∈ l, ∀ q' ∈ l, ht c s q = ht c s q' := fun hn hv => ⟨_, _, hn, fun q hq q' hq' => (key hv q hq).trans (key hv q' hq').symm⟩
  have nd : (hl l).Nodup := hull_nodup (ascOf_asc l)
  match e : hl l, h, nd with
  | [], _, _ =>
    obtain ⟨q, hq⟩ := List.exists_mem_of_ne_nil l hne
    obtain ⟨d, hd, _⟩ := hl_min 0 0 hq
    rw [e] at hd
    cases hd
  | [d], _, _ => exact fin (c := 1) (s := 0) (v := ht 1 0 d) (by decide) fun x hx => by rw [e] at hx; rw [List.mem_singleton.mp hx]
  | [d, d'], _, nd =>
    have hne : d ≠ d' := fun z => by
      have := (List.nodup_cons.mp nd).1
      exact this (by rw [z]; exact List.mem_cons_self)
    refine fin (c := -(d'.2 - d.2)) (s := d'.1 - d.1) (v := ht (-(d'.2 - d.2)) (d'.1 - d.1) d) (fun ⟨h1, h2⟩ => hne (Prod.ext (by omega) (by omega))) fun x hx => ?_
    rw [e] at hx
    rcases List.mem_cons.mp
          hx with rfl | hx
    · rfl
    · rw [List.mem_singleton.mp hx]
      unfold ht
      grind
theorem flat_tt {c s : Int} (hn : ¬ (c = 0 ∧ s = 0)) {x a b : P} (h1 : ht c s x = ht c s a) (h2 : ht c s x = ht c s b) : tt x a b = 0 := by
  unfold ht at h1 h2
  unfold tt
  have e1 : c * (a.1 - x.1) + s * (a.2 - x.2) = 0 := by grind
  have e2 : c * (b.1 - x.1) + s * (b.2 - x.2) = 0 := by grind
  generalize a.1 - x.1 = u1 at *
  generalize a.2 - x.2 = u2 at *
  generalize b.1 - x.1 = v1 at *
  generalize b.2 - x.2 = v2 at *
  by_cases hc : c = 0
  · have hs : s ≠ 0 := fun z => hn ⟨hc, z⟩
    rw [hc] at e1 e2
    have f1 : s * u2 = 0 := by omega
    have f2 : s * v2 = 0 := by omega
    have g1 : u2 = 0 := by rcases Int.mul_eq_zero.mp f1 with h | h; exact absurd h hs; exact h
    have g2 : v2 = 0 := by rcases Int.mul_eq_zero.mp f2 with h | h; exact absurd h hs; exact h
    rw [g1, g2]
    simp
  · have : c * (u1 * v2 - u2 * v1) = 0 := by
      have : c * (u1 * v2 - u2 * v1) = (c * u1 + s * u2) * v2 - (c * v1 + s * v2) * u2 := by grind
      rw [this, e1, e2]
      simp
    rcases Int.mul_eq_zero.mp this with h | h
    · exact absurd h hc
    · exact h
def rot (p : P) : P := (-p.2, p.1)
theorem tt_rot (x a b : P) : tt (rot x) (rot a) (rot b) = tt x a b := by unfold tt rot; grind
theorem rot_three {l : List P} (h : hl l = l) (h3 : 3 ≤ l.length) : 3 ≤ (hl (l.map rot)).length := by
  refine Classical.byContradiction
        fun hn => ?_
  have h3' : 3 ≤ (hl l).length := by rw [h]; exact h3
  obtain ⟨x, a, b, B, e, hp⟩ := hl_three h3'
  rw [h] at e
  have hne : l.map rot ≠ [] := by rw [e]; simp
  obtain ⟨c, s, hcs, hall⟩ := flat_of hne (by omega)
  have mx : rot x ∈ l.map rot := List.mem_map.mpr ⟨x, by rw [e]; simp, rfl⟩
  have ma : rot a ∈ l.map rot := List.mem_map.mpr ⟨a, by rw [e]; simp, rfl⟩
  have mb : rot b ∈ l.map rot := List.mem_map.mpr ⟨b, by rw [e]; simp, rfl⟩
  have := flat_tt hcs (hall _ mx _ ma) (hall _ mx _ mb)
  rw [tt_rot] at this
  omega
end K8

namespace Ur
open PySem L2 PyProof.Rows
/-! ### comprehensions of which only is known what each item is -/
abbrev MonoA (H : Hp) (Pe : Hp → V → Prop) : Prop := ∀ (D : Addr) (H1 H2 : Hp) y, H D = none → (∃ ys, H1 D = some (.lst ys)) → Same H H1 → (∀ a u, a ≠ D → H1 a = some u → H2 a = some u) → Pe H1 y → Pe H2 y
structure SomeH (H : Hp) (Pe : Hp → V → Prop) (D : Addr) (i : Nat) (H' : Hp) : Prop where
  new : H D = none
  same : Same H H'
  held : ∃ ys, H' D = some (.lst ys) ∧ ys.length ≤ i ∧ ∀ y ∈ ys, Pe H' y
theorem SomeH.turn {H H3 : Hp} {Pe : Hp → V → Prop} (hm : MonoA H Pe) {D : Addr} {i : Nat} {te : TE} {σ2 : L2.St} (m : SomeH H Pe D i H3) (hi : i < 100000)
    (he : ∀ Q' : VK, (∀ y H4, Pe H4 y → Same H3 H4 → Q' y H4) → te σ2 H3 Q') :
    te σ2 H3 fun y H4 => ∃ acc, H4 D = some (.lst acc) ∧ acc.length < sizeLine ∧ SomeH H Pe D (i + 1) (upd H4 D (.lst (acc ++ [y]))) := by
  obtain ⟨hn, sm, ys, h1, h2, h3⟩ := m
  refine he _ fun y H4 py s4 => ⟨ys, s4 _ _ h1, Nat.lt_of_lt_of_le (by omega : ys.length < 100000) (by decide), hn, same_own (sm.trans s4) hn, ys ++ [y], upd_same, by simp; omega, fun z hz => ?_⟩
  have keep : ∀ a u, a ≠ D → H4 a = some u → upd H4 D (.lst (ys ++ [y])) a = some u := fun a u ne q => by rw [upd_ne ne]; exact q
  rcases List.mem_append.mp hz with k | k
  · exact hm D _ _ z hn ⟨_, h1⟩ sm (fun a u ne q => keep a u ne (s4 a u q)) (h3 z k)
  · rw [List.mem_singleton.mp k]
    exact hm D _ _ y hn ⟨_, s4 _ _ h1⟩ (sm.trans s4) keep py
theorem SomeH.skip {H H3 H4 : Hp} {Pe : Hp → V → Prop} (hm : MonoA H Pe) {D : Addr} {i : Nat} (m : SomeH H Pe D i H3) (s : Same H3 H4) : SomeH H Pe D (i + 1) H4 := by
  obtain ⟨hn, sm, ys, h1, h2, h3⟩ := m
  exact ⟨hn, sm.trans s, ys, s _ _ h1, by omega, fun y hy => hm D _ _ y hn ⟨_, h1⟩ sm (fun a u _ q => s a u q) (h3 y hy)⟩
section
variable {te : TE} {tt : TT} {vs : List Nat} {j : Nat} {σ : L2.St} {Q : VK}
/-- [e for x in range(n) if test], n written -/
theorem lcRp {ta : TA} {H0 : Hp} {n : Nat} (Pe : Hp → V → Prop) (hm : MonoA H0 Pe) (hx : ∀ R : List V → Hp → Prop, R [.int (n : Nat)] H0 → ta σ H0 R) (hb : n ≤ 100000)
    (hw : ∀ x, wipe ((wipe σ vs).set j (some x)) vs = wipe σ vs)
    (ht : ∀ (i : Nat) (H3 : Hp), i < n → Same H0 H3 → ∀ Q' : Bool → Hp → Prop, (∀ b H4, Same H3 H4 → Q' b H4) → tt ((wipe σ vs).set j (some (.int (0 + (i : Int))))) H3 Q')
    (he : ∀ (i : Nat) (H3 : Hp), i < n → Same H0 H3 → ∀ Q' : VK, (∀ y H4, Pe H4 y → Same H3 H4 → Q' y H4) → te ((wipe σ vs).set j (some (.int (0 + (i : Int))))) H3 Q')
    (hq : ∀ D ys H', H0 D = none → Same H0 H' → H' D = some (.lst ys) → ys.length ≤ n → (∀ y ∈ ys, Pe H' y) → Q (.ref D) H') : tLc (iRng1 ta) (gName j) tt te vs σ H0 Q := by
  refine hx _ ⟨(n : Nat), rfl, by omega, by omega, fun D hD => ?_⟩
  refine lc_range (lo := 0) (n := (n : Int).toNat) (SomeH H0 Pe D) ⟨hD, same_new hD, [], upd_same, Nat.le_refl _, by simp⟩ (fun i H' hi m => ⟨hw _, ?_⟩) (fun H' ⟨hn, sm, ys, h1, h2, h3⟩ => hq D ys H' hn sm h1 (by simpa using h2) h3)
  have hi' : i < n := by simpa using hi
  refine ht i H' hi' m.same _ fun b H4 s4 => ?_
  cases b with
  | true =>
    rw [if_pos rfl]
    have m4 : SomeH H0 Pe D i H4 := ⟨m.new, m.same.trans s4, let ⟨ys, h1, h2, h3⟩ := m.held; ⟨ys, s4 _ _ h1, h2, fun y hy => hm D _ _ y m.new ⟨_, h1⟩ m.same (fun a u _ q => s4 a u q) (h3 y hy)⟩⟩
    exact m4.turn hm (by omega) (he i H4 hi' (m.same.trans s4))
  | false =>
    rw [if_neg
          Bool.false_ne_true]
    exact m.skip hm s4
end
end Ur
namespace K8
open PySem L2 Ur Hull
theorem gname_in {i : Nat} {x : V} {σ : L2.St} {H : Hp} {Q : L2.St → Hp → Prop} (h : Q (σ.set i (some x)) H) : gName i x σ H Q := h
abbrev sLPlate : Stmt := top 59
/-- a pair of small numbers -/
def Sm (H : Hp) (y : V) : Prop := ∃ p : P, Sp2 H y p ∧ p.1.natAbs ≤ 50 ∧ p.2.natAbs ≤ 50
theorem Sm.same {H H' : Hp} (s : Same H H') {y : V} (h : Sm H y) : Sm H' y := by
  obtain ⟨p, h, b⟩ := h
  exact ⟨p, h.same s, b⟩
theorem mono_sm {H : Hp} : MonoA H Sm := by
  rintro D H1 H2 y hD ⟨ys, hl⟩ s1 keep ⟨p, ⟨t, e, h⟩, b⟩
  exact ⟨p, ⟨t, e, keep t _ (fun z => by rw [z, hl] at h; cases h) h⟩, b⟩
theorem mono_sm2 {H : Hp} : Mono H fun H' _ y => Sm H' y := fun D H1 H2 j y hD hl s1 keep h => mono_sm D H1 H2 y hD hl s1 keep h
theorem Sm.of {H : Hp} {t : Addr} {x y : Int} (h : H t = some (.tup [.int x, .int y])) (hx : x.natAbs ≤ 50) (hy : y.natAbs ≤ 50) : Sm H (.ref t) := ⟨(x, y), ⟨t, rfl, h⟩, hx, hy⟩
/-- drawn points -/
structure Drw (H : Hp) (D : Addr) (n : Nat) : Prop where
  ex : ∃ zs, H D = some (.lst zs) ∧ zs.length ≤ n ∧ ∀ z ∈ zs, Sm H z
theorem Drw.same {H H' : Hp} (s : Same H H') {D : Addr} {n : Nat} (h : Drw H D n) : Drw H' D n := by
  obtain ⟨zs, h1, h2, h3⟩ := h
  exact ⟨zs, s _ _ h1, h2, fun z hz => (h3 z hz).same s⟩
theorem cut_8 (xs : List V) : cutV xs none (some 8) = xs.take 8 := by
  unfold cutV
  have e1 : HT.sIx xs.length 0 none = 0 := rfl
  have e2 : HT.sIx xs.length xs.length (some 8) = min 8 xs.length := HT.sIx_nat xs.length xs.length 8
  rw [e1, e2, List.drop_zero, Nat.sub_zero]
  rcases Nat.le_total 8 xs.length with h | h
  · rw [Nat.min_eq_left h]
  · rw [Nat.min_eq_right h, List.take_of_length_le h, List.take_of_length_le (Nat.le_refl _)]
def spPlate (K : PySem.W.Frag) : Sp := fun vs H Q _ => ∃ (u : Addr), vs = [.ref u] ∧ H u = some (UrnO u) ∧ ∀ (v : V) (xs : List V) (pts : List (List Int)) (S : Nat) (H' : Hp), Same H H' → SecV K H' v xs pts S → Q v H'
theorem tri_sec : Sec [[0, 0, 1], [2, 0, 1], [1, 1, 1]] 1 := by
  refine ⟨⟨⟨by decide, fun p hp => ?_, fun p hp => ?_, by decide, by decide⟩, by decide +kernel⟩, by decide, by decide⟩
  · simp only [List.mem_cons, List.not_mem_nil, or_false] at hp
    rcases hp with rfl | rfl | rfl
    · exact ⟨0, 0, 1, rfl, by decide, by decide, by decide, by decide, by decide⟩
    · exact ⟨2, 0, 1, rfl, by decide, by decide, by decide, by decide, by decide⟩
    · exact ⟨1, 1, 1, rfl, by decide, by decide, by decide, by decide, by decide⟩
  · simp only [List.mem_cons, List.not_mem_nil, or_false] at hp
    rcases hp with rfl | rfl | rfl <;> exact Nat.dvd_refl _
section
variable {P' : Program} {w : World} {K :
      PySem.W.Frag} {mg : Str → Option Value} {base : Heap}
abbrev n_lplate : List Str := ["_law_urn_here", "_law_kind", "_law_over", "_law_spots", "_law_lean", "_law_tall_here", "_law_bits", "_law_high", "_law_found", "_law_x", "_law_y", "_law_step", "_law_k"]
theorem sc_lplate : FnScope n_lplate p_lurn (defScope sLPlate) := ⟨rfl, rfl, rfl, by decide +kernel, rfl, by decide +kernel, by decide +kernel⟩
set_option
      maxHeartbeats 2000000 in
theorem ok_lplate {f : Addr} {fd : FuncData} (F : Fun K "_law_plate" "_law_plate" sLPlate f fd) (T : Bl mg) (H_law_pull : Has P' w K mg base "_law_pull" ["_law_urn_here", "_law_many"] 1 spPull) (H_law_any : Has P' w K mg base "_law_any" p_law_any 2 spAny) (H_law_num : Has P' w K mg base "_law_num" p_law_num 2 spNum)
    (H_law_spot : Has P' w K mg base "_law_spot" p_lspot 3 (spN3 K)) (H_law_hull : Has P' w K mg base "_law_hull" p_lspots 7 (spLHull K)) : FnOk P' w K mg base CX0 8 f fd p_lurn (spPlate K) := by
  refine F.ok sc_lplate (fun vs H Q E h => ?_) (fun cdv A outer s H vs Q E hr h => ?_)
  · obtain ⟨_, rfl, _⟩ := h
    rfl
  · obtain ⟨u, rfl, hu, q⟩ := h
    refine ⟨_, (pss_cons (ps_asg (pe_tup (pa_cons (pe_has H_law_pull (hr.mono (by decide)) (by rfl) (pa_cons (pv 0) (pa_cons pe_int pa_nil))) (pa_cons (pe_has H_law_any (hr.mono (by decide)) (by rfl) (pa_cons (pv 0) (pa_cons (pe_lst (pa_cons pe_int (pa_cons pe_int (pa_cons pe_int (pa_cons pe_int (pa_cons pe_int (pa_cons pe_int pa_nil))))))) pa_nil))) pa_nil))) (pg_tup rfl (pgs_cons (pg_name (i := 1) sc_lplate.nd rfl (Or.inl rfl)) (pgs_cons (pg_name (i := 2) sc_lplate.nd rfl (Or.inr rfl)) pgs_nil))))
      (pss_mid (ps_if (pt_cmpR op_eq (pv 1) pe_int (nomark _)) (pss_cons (ps_set (i := 3) sc_lplate.nd rfl (Or.inl rfl) (pe_lst (pa_cons (pe_tup (pa_cons pe_int (pa_cons pe_int pa_nil))) (pa_cons (pe_tup (pa_cons (pe_op op_add pe_int (pe_has H_law_pull (hr.mono (by decide)) (by rfl) (pa_cons (pv 0) (pa_cons pe_int pa_nil)))) (pa_cons pe_int pa_nil))) (pa_cons (pe_tup (pa_cons pe_int (pa_cons (pe_op op_add pe_int (pe_has H_law_pull (hr.mono (by decide)) (by rfl) (pa_cons (pv 0) (pa_cons pe_int pa_nil)))) pa_nil))) pa_nil)))))
      (pss_one (ps_set (i := 3) sc_lplate.nd rfl (Or.inl rfl) (pe_ifExp (pt_cmpR op_gt (pe_has H_law_pull (hr.mono (by decide)) (by rfl) (pa_cons (pv 0) (pa_cons pe_int pa_nil))) pe_int (nomark _)) (pe_op op_cat (pv 3) (pe_lst (pa_cons (pe_tup (pa_cons (pe_ix (r := rIxT K) ix_tup (pe_ix (r := rIxL K) ix_list (pv 3) pe_int (fun _ _ => rfl)) pe_int (fun _ _ => rfl)) (pa_cons (pe_ix (r := rIxT K) ix_tup (pe_ix (r := rIxL K) ix_list (pv 3) pe_int (fun _ _ => rfl)) pe_int (fun _ _ => rfl)) pa_nil))) pa_nil))) (pv 3))))) (pss_one (ps_if (pt_cmpR op_eq (pv 1) pe_int (nomark _)) (pss_cons (ps_asg (pe_tup (pa_cons (pe_has H_law_num (hr.mono (by decide)) (by rfl) (pa_cons (pv 0) (pa_cons pe_int pa_nil))) (pa_cons (pe_has H_law_any (hr.mono (by decide)) (by rfl) (pa_cons (pv 0) (pa_cons (pe_lst (pa_cons pe_int (pa_cons pe_int (pa_cons pe_int pa_nil)))) pa_nil))) pa_nil))) (pg_tup rfl (pgs_cons (pg_name (i := 4) sc_lplate.nd rfl (Or.inr rfl)) (pgs_cons (pg_name (i := 5) sc_lplate.nd rfl (Or.inr rfl)) pgs_nil))))
      (pss_cons (ps_set (i := 6) sc_lplate.nd rfl (Or.inr rfl) (pe_lc (own := [("_law_step", 11)]) (g := gName 11) (tt := tYes) rfl sc_lplate.nd (pi_range1 (by rfl) T.range (pa_cons pe_int pa_nil)) (blkOk_by (N := n_lplate) (sc := defScope sLPlate) (by decide +kernel)) (fun _ _ _ _ _ => pg_name (i := 11) sc_lplate.nd rfl (Or.inl rfl)) (fun _ _ _ _ _ => pts_nil) (fun _ _ _ _ _ => (pe_has H_law_pull (hr.mono (by decide)) (by rfl) (pa_cons (pv 0) (pa_cons pe_int pa_nil))))))
      (pss_one (ps_set (i := 3) sc_lplate.nd rfl (Or.inl rfl) (pe_slice sl_list (pe_lc (own := [("_law_k", 12)]) (g := gName 12) rfl sc_lplate.nd (pi_range1 (by rfl) T.range (pa_cons pe_int pa_nil)) (blkOk_by (N := n_lplate) (sc := defScope sLPlate) (by decide +kernel)) (fun _ _ _ _ _ => pg_name (i := 12) sc_lplate.nd rfl (Or.inl rfl)) (fun _ _ _ _ _ => pts_one (pt_cmpR op_gt (pe_ix (r := rIxL K) ix_list (pv 6) (pv 12) (fun _ _ => rfl)) pe_int (nomark _))) (fun _ _ _ _ _ => (pe_tup (pa_cons (pe_op op_sub (pv 12) pe_int) (pa_cons (pe_op op_add (pe_op op_mulW (pe_op op_mulW (pv 5) (pe_op op_sub (pv 12) pe_int)) (pe_op op_sub (pv 12) pe_int)) (pe_op op_mulW (pv 4) (pe_op op_sub (pv 12) pe_int))) pa_nil))))) po_none (po_some pe_int)))))) (pss_cons (ps_set (i := 7) sc_lplate.nd rfl (Or.inr rfl) (pe_has H_law_any (hr.mono (by decide)) (by rfl) (pa_cons (pv 0) (pa_cons (pe_lst (pa_cons pe_int (pa_cons pe_int (pa_cons pe_int (pa_cons pe_int (pa_cons pe_int pa_nil)))))) pa_nil))))
      (pss_one (ps_setLc (i := 3) (own := [("_law_step", 11)]) (g := gName 11) (tt := tYes) rfl sc_lplate.nd rfl rfl (sw_true rfl rfl rfl (by decide +kernel)) (pi_range1 (by rfl) T.range (pa_cons (pe_op op_add pe_int (pe_has H_law_pull (hr.mono (by decide)) (by rfl) (pa_cons (pv 0) (pa_cons pe_int pa_nil)))) pa_nil)) (blkOk_by (N := n_lplate) (sc := defScope sLPlate) (by decide +kernel)) (fun _ _ _ _ _ => pg_name (i := 11) sc_lplate.nd rfl (Or.inl rfl)) (fun _ _ _ _ _ => pts_nil) (fun _ _ _ _ _ => (pe_tup (pa_cons (pe_has H_law_num (hr.mono (by decide)) (by rfl) (pa_cons (pv 0) (pa_cons (pv 7) pa_nil))) (pa_cons (pe_has H_law_num (hr.mono (by decide)) (by rfl) (pa_cons (pv 0) (pa_cons (pv 7) pa_nil))) pa_nil))))))))))
      (pss_mid (ps_if (pt_cmpR op_gt (pv 1) pe_int (nomark _)) (pss_one (ps_set (i := 3) sc_lplate.nd rfl (Or.inl rfl) (pe_slice sl_list (pe_op op_cat (pv 3) (pe_lc (own := [("_law_x", 9), ("_law_y", 10)]) (g := gPair K 9 10) (tt := tYes) rfl sc_lplate.nd (pi_list (pv 3)) (blkOk_by (N := n_lplate) (sc := defScope sLPlate) (by decide +kernel)) (fun _ _ _ _ _ => pg_tup rfl (pgs_cons (pg_name (i := 9) sc_lplate.nd rfl (Or.inl rfl)) (pgs_cons (pg_name (i := 10) sc_lplate.nd rfl (Or.inl rfl)) pgs_nil))) (fun _ _ _ _ _ => pts_nil) (fun _ _ _ _ _ => (pe_tup (pa_cons (pe_un un_neg (pv 9)) (pa_cons (pe_un un_neg (pv 10)) pa_nil)))))) po_none (po_some pe_int)))) pss_nil)
      (pss_cons (ps_set (i := 8) sc_lplate.nd rfl (Or.inl rfl) (pe_has H_law_hull (hr.mono (by decide)) (by rfl) (pa_cons (pe_lc (own := [("_law_x", 9), ("_law_y", 10)]) (g := gPair K 9 10) (tt := tYes) rfl sc_lplate.nd (pi_list (pv 3)) (blkOk_by (N := n_lplate) (sc := defScope sLPlate) (by decide +kernel)) (fun _ _ _ _ _ => pg_tup rfl (pgs_cons (pg_name (i := 9) sc_lplate.nd rfl (Or.inl rfl)) (pgs_cons (pg_name (i := 10) sc_lplate.nd rfl (Or.inl rfl)) pgs_nil))) (fun _ _ _ _ _ => pts_nil) (fun _ _ _ _ _ => (pe_has H_law_spot (hr.mono (by decide)) (by rfl) (pa_cons (pv 9) (pa_cons (pv 10) (pa_cons (pv 2) pa_nil)))))) pa_nil)))
      (pss_one (ps_ret (pe_ifExp (pt_cmpR op_gt (pe_callB (r := Ur.rLen K) Ur.len_seq (by rfl) T.len PySem.boot_len (pa_cons (pv 8) pa_nil)) pe_int (nomark _)) (pv 8) (pe_tup (pa_cons (pe_tup (pa_cons pe_int (pa_cons pe_int (pa_cons pe_int pa_nil)))) (pa_cons (pe_tup (pa_cons pe_int (pa_cons pe_int (pa_cons pe_int pa_nil)))) (pa_cons (pe_tup (pa_cons pe_int (pa_cons pe_int (pa_cons pe_int pa_nil)))) pa_nil))))))))))), ?_⟩
    refine ⟨_, rfl, u, 5, rfl, hu, by decide, by decide, fun k H1 k0 k1 s1 => ?_⟩
    refine ⟨_, rfl, by show 6 ≤ sizeLine; decide, fun l hl => ⟨u, l, _, rfl, same_new hl _ _ (s1 _ _ hu), upd_same, by decide, by decide, fun x H2 hx s2 => ⟨by show 2 ≤ sizeLine; decide, fun p hp => ⟨p, _, rfl, SqT.of upd_same, rfl, _, _, rfl, _, _, rfl, rfl, ?_⟩⟩⟩⟩
    obtain ⟨ov, rfl, ov0, ov1⟩ := menu (l := [1, 1, 1, 2, 3, 5]) (lo := 1) (hi := 5) hx (by decide)
    have s3 := s1.trans ((same_new (p := l) (o := HO.lst [V.int 1, .int 1, .int 1, .int 2, .int 3, .int 5]) hl).trans (s2.trans (same_new (p := p) (o := HO.tup [V.int k, .int ov]) hp)))
    generalize upd H2 p (.tup [V.int k, .int ov]) = H3 at s3 ⊢
    refine ⟨fun σ' H' => ∃ (D : Addr) (o4 o5 o6 o7 : Option V), σ' = [some (.ref u), some (.int k), some (.int ov), some (.ref D), o4, o5, o6, o7, none, none, none, none, none] ∧ Same H H' ∧ Drw H' D 8, ?_, ?_⟩
    · refine ⟨_, rfl, rfl, _, rfl, ?_⟩
      refine ite2 (fun _
            => ?_) (fun _ => ?_)
      · -- corners on both axes
        refine ⟨by show 2 ≤ sizeLine; decide, fun a1 ha1 => ?_⟩
        have z1 := s3.trans (same_new (p := a1) (o := HO.tup [V.int 0, .int 0]) ha1)
        have g1 : (upd H3 a1 (.tup [V.int 0, .int 0])) a1 = some (.tup [V.int 0, .int 0]) := upd_same
        generalize upd H3 a1 (.tup [V.int 0, .int 0]) = H4 at z1 g1 ⊢
        refine ⟨_, rfl, u, 4, rfl, z1 _ _ hu, by decide, by decide, fun r1 H5 r10 r11 s5 => ⟨_, _, rfl, rfl, by show 2 ≤ sizeLine; decide, fun a2 ha2 => ?_⟩⟩
        have z2 := (s5.trans (same_new (p := a2) (o := HO.tup [V.int (1 + r1), .int 0]) ha2))
        have g2 : (upd H5 a2 (.tup [V.int (1 + r1), .int 0])) a2 = some (.tup [V.int (1 + r1), .int 0]) := upd_same
        generalize upd H5 a2 (.tup [V.int (1 + r1), .int 0]) = H6 at z2 g2 ⊢
        refine ⟨_, rfl, u, 4, rfl, z2 _ _ (z1 _ _ hu), by decide, by decide, fun r2 H7 r20 r21 s7 => ⟨_, _, rfl, rfl, by show 2 ≤ sizeLine; decide, fun a3 ha3 => ⟨by show 3 ≤ sizeLine; decide, fun ls hls => ?_⟩⟩⟩
        have z3 := s7.trans ((same_new (p := a3) (o := HO.tup [V.int 0, .int (1 + r2)]) ha3).trans (same_new (p := ls) (o := HO.lst [V.ref a1, .ref a2, .ref a3]) hls))
        have g3 := same_new (p := ls) (o := HO.lst [V.ref a1, .ref a2, .ref a3]) hls _ _ (upd_same (H := H7) (a := a3) (o := HO.tup [V.int 0, .int (1 + r2)]))
        have gl : (upd (upd H7 a3 (.tup [V.int 0, .int (1 + r2)])) ls (.lst [V.ref a1, .ref a2, .ref a3])) ls = some (.lst [V.ref a1, .ref a2, .ref a3]) := upd_same
        generalize upd (upd H7 a3 (.tup [V.int 0, .int (1 + r2)])) ls (.lst [V.ref a1, .ref a2, .ref a3]) = H8 at z3 g3 gl ⊢
        have y1 := z3 _ _ (z2 _ _ g1)
        have y2 := z3 _ _ g2
        have zz := z1.trans (z2.trans z3)
        refine ⟨_, rfl, u, 3, rfl, zz _ _ hu, by decide, by decide, fun r3 H9 r30 r31 s9 => ⟨_, _, rfl, rfl, _, rfl, ?_⟩⟩
        have m1 : Sm H9 (.ref a1) := Sm.of (s9 _ _ y1) (by decide) (by decide)
        have m2 : Sm H9 (.ref a2) := Sm.of (s9 _ _ y2) (by omega) (by decide)
        have m3 : Sm H9 (.ref a3) := Sm.of (s9 _ _ g3) (by decide) (by omega)
        refine ite2 (fun _
              => ?_) (fun _ => ?_)
        · refine ⟨_, rfl, _, rfl, ls, _, 1, .ref a2, rfl, rfl, SqL.of (s9 _ _ gl), rfl, a2, _, 0, _, rfl, rfl, SqT.of (s9 _ _ y2), rfl, _, rfl, ls, _, 2, .ref a3, rfl, rfl, SqL.of (s9 _ _ gl), rfl, a3, _, 1, _, rfl, rfl, SqT.of (s9 _ _ g3), rfl, by show 2 ≤ sizeLine; decide, fun a4 ha4 => ⟨by show 1 ≤ sizeLine; decide, fun l4 hl4 => ?_⟩⟩
          have z4 := (same_new (p := a4) (o := HO.tup [V.int (1 + r1), .int (1 + r2)]) ha4).trans (same_new (p := l4) (o := HO.lst [V.ref a4]) hl4)
          have g4 := same_new (p := l4) (o := HO.lst [V.ref a4]) hl4 _ _ (upd_same (H := H9) (a := a4) (o := HO.tup [V.int (1 + r1), .int (1 + r2)]))
          refine ⟨_, _, _, _, rfl, rfl, z4 _ _ (s9 _ _ gl), upd_same, by show 3 + 1 ≤ sizeLine; decide, fun l5 hl5 => ⟨l5, _, _, _, _, rfl, zz.trans ((s9.trans z4).trans (same_new hl5)), ⟨_, upd_same, by simp, fun z hz => ?_⟩⟩⟩
          have z5 := z4.trans (same_new (p := l5) (o := HO.lst ([V.ref a1, .ref a2, .ref a3] ++ [V.ref a4])) hl5)
          simp only [List.cons_append, List.nil_append, List.mem_cons, List.not_mem_nil, or_false] at hz
          rcases hz with rfl | rfl | rfl | rfl
          · exact m1.same z5
          · exact m2.same z5
          · exact m3.same z5
          · exact Sm.of (same_new hl5 _ _ g4) (by omega) (by omega)
        · refine ⟨_, rfl, ls, _, _, _, _, rfl, zz.trans s9, ⟨_, s9 _ _ gl, by simp, fun z hz => ?_⟩⟩
          simp only [List.mem_cons, List.not_mem_nil, or_false] at hz
          rcases hz with rfl | rfl | rfl
          · exact m1
          · exact m2
          · exact m3
      · refine ⟨_, rfl, rfl, _, rfl, ?_⟩
        refine ite2 (fun _
              => ?_) (fun _ => ?_)
        · -- points of a bow
          refine ⟨_, rfl, u, 2, rfl, s3 _ _ hu, by decide, by decide, fun le H4 le0 le1 s4 => ?_⟩
          refine ⟨_, rfl, by show 3 ≤ sizeLine; decide, fun l2 hl2 => ⟨u, l2, _, rfl, same_new hl2 _ _ (s4 _ _ (s3 _ _ hu)), upd_same, by decide, by decide, fun x H5 hx s5 => ⟨by show 2 ≤ sizeLine; decide, fun p2 hp2 => ⟨p2, _, rfl, SqT.of upd_same, rfl, _, _, rfl, _, _, rfl, rfl, ?_⟩⟩⟩⟩
          obtain ⟨ta, rfl, ta0, ta1⟩ := menu (l := [1, 1, 2]) (lo := 1) (hi := 2) hx (by decide)
          have s6 := s3.trans (s4.trans ((same_new (p := l2) (o := HO.lst [V.int 1, .int 1, .int 2]) hl2).trans (s5.trans (same_new (p := p2) (o := HO.tup [V.int le, .int ta]) hp2))))
          generalize upd H5 p2 (.tup [V.int le, .int ta]) = H6 at s6 ⊢
          dsimp only
          refine seq_of (asg_of ?_)
          refine lcRh (j1 := 11) (fun n => n = 9) (fun _ _ y => ∃ z : Int, y = .int z) (fun R r => r 9 H6 rfl (Same.refl _)) (fun n e => by subst e; decide) (fun H1 s1 D H1' H2' j y _ _ _ _ h => h) (fun _ => rfl) (fun n i H7 hn hi s7 Q' q' => ⟨_, rfl, u, 4, rfl, s7 _ _ (s6 _ _ hu), by decide, by decide, fun r H8 r0 r1 s8 => q' _ _ ⟨r, rfl⟩ s8⟩) (fun n D ys H7 hn hD s7 hy e1 e2 => ?_)
          subst hn
          have s67 := s6.trans s7
          refine gname_in ?_
          dsimp only
          refine asg_of ?_
          unfold tSl
          dsimp only
          refine lcRp (j := 12) (n := 9) Sm mono_sm (fun R r => r) (by decide) (fun _ => rfl) (fun i H8 hi s8 Q' q' => ?_) (fun i H8 hi s8 Q' q' => ?_) (fun D2 ys2 H8 hD2 s8 hy2 e3 e4 => ?_)
          · have hyi : ys[i]? = some ys[i] := List.getElem?_eq_getElem (by omega)
            obtain ⟨z, hz⟩ := e2 i _ hyi
            have k9 : (0 : Int) + (i : Nat) = ((i : Nat) : Int) := by omega
            exact ⟨_, rfl, _, rfl, D, _, _, .int z, rfl, rfl, SqL.of (s8 _ _ hy), by rw [k9, ← hz]; exact atI_nat hyi, _, _, rfl, rfl, _, rfl, q' _ _ (Same.refl _)⟩
          · have b4 : (0 + (i : Int) - 4).natAbs ≤ 4 := by omega
            have bt : ta.natAbs ≤ 2 := by omega
            have bl : le.natAbs ≤ 2 := by omega
            generalize 0 + (i : Int) = I at b4 ⊢
            have c1 : (ta * (I - 4)).natAbs ≤ 8 := by rw [Int.natAbs_mul]; exact Nat.mul_le_mul bt b4
            have c2 : (ta * (I - 4) * (I - 4)).natAbs ≤ 32 := by rw [Int.natAbs_mul]; exact Nat.mul_le_mul c1 b4
            have c3 : (le * (I - 4)).natAbs ≤ 8 := by rw [Int.natAbs_mul]; exact Nat.mul_le_mul bl b4
            have mm : ∀ {x y : Int}, x.natAbs ≤ 40 → y.natAbs ≤ 40 → CMulW x y := fun h k => mq (Nat.lt_of_le_of_lt h (by decide)) (Nat.lt_of_le_of_lt k (by decide))
            refine ⟨_, rfl, _, _, rfl, rfl, _, rfl, _, rfl, _, _, rfl, rfl, _, _, rfl, rfl, mm (by omega) (by omega), _, rfl, _, _, rfl, rfl, _, _, rfl, rfl, mm (by omega) (by omega), _, rfl, _, rfl, _, _, rfl, rfl, _, _, rfl, rfl, mm (by omega) (by omega), _, _, rfl, rfl, by show 2 ≤ sizeLine; decide, fun p3 hp3 => q' _ _ (Sm.of upd_same (by omega) (by omega)) (same_new hp3)⟩
          · refine ⟨8, rfl, D2, _, rfl, SqL.of hy2, fun D3 hD3 => ?_⟩
            rw [cut_8]
            exact ⟨D3, _, _, _, _, rfl, (s67.trans s8).trans (same_new hD3), ⟨_, upd_same, by rw [List.length_take]; omega, fun z hz => (e4 z (List.mem_of_mem_take hz)).same (same_new hD3)⟩⟩
        · -- any points
          refine ⟨_, rfl, by show 5 ≤ sizeLine; decide, fun l2 hl2 => ⟨u, l2, _, rfl, same_new hl2 _ _ (s3 _ _ hu), upd_same, by decide, by decide, fun x H4 hx s4 => ?_⟩⟩
          obtain ⟨hi', rfl, hi0, hi1⟩ := menu (l := [1, 2, 3, 5, 9]) (lo := 1) (hi := 9) hx (by decide)
          have s5 := s3.trans ((same_new (p := l2) (o := HO.lst [V.int 1, .int 2, .int 3, .int 5, .int 9]) hl2).trans s4)
          refine gname_in ?_
          dsimp only
          refine asg_of ?_
          refine lcRh (j1 := 11) (fun n => 0 ≤ n ∧ n ≤ 8) (fun H' _ y => Sm H' y) (fun R rr => ?_) (fun n e => by omega) (fun H1 s1 => mono_sm2) (fun _ => rfl) (fun n i H7 hn hi s7 Q' q' => ?_) (fun n D ys H7 hn hD s7 hy e1 e2 => ?_)
          · exact ⟨_, rfl, u, 6, rfl, s5 _ _ hu, by decide, by decide, fun r H5 r0 r1 s6 => ⟨_, _, rfl, rfl, rr _ H5 (by omega) s6⟩⟩
          · refine ⟨_, rfl, _, rfl, u, hi', rfl, s7 _ _ (s5 _ _ hu), by omega, by omega, fun r1 H8 r10 r11 s8 => ?_⟩
            exact ⟨_, rfl, _, rfl, u, hi', rfl, s8 _ _ (s7 _ _ (s5 _ _ hu)), by omega, by omega, fun r2 H9 r20 r21 s9 => ⟨by show 2 ≤ sizeLine; decide, fun p3 hp3 => q' _ _ (Sm.of upd_same (by omega) (by omega)) ((s8.trans s9).trans (same_new hp3))⟩⟩
          · exact ⟨D, _, _, _, _, rfl, s5.trans s7, ⟨_, hy, by omega, fun z hz => let ⟨i, hi⟩ := List.getElem?_of_mem hz; e2 i z hi⟩⟩
    · rintro σ' H' ⟨D, o4, o5, o6, o7, rfl, s4, hD⟩
      refine ⟨fun σ' H' => ∃ (D : Addr) (o4 o5 o6 o7 : Option V), σ' = [some (.ref u), some (.int k), some (.int ov), some (.ref D), o4, o5, o6, o7, none, none, none, none, none] ∧ Same H H' ∧ Drw H' D 8, ?_, ?_⟩
      · refine ⟨_, rfl, _, _, rfl, rfl, _, rfl, ?_⟩
        refine ite2 (fun _ => ?_) (fun _ => ⟨D, o4, o5, o6, o7, rfl, s4, hD⟩)
        obtain ⟨zs, hz, hzl, hzm⟩ := hD
        refine asg_of ?_
        unfold tSl tOp
        dsimp only
        refine ⟨_, rfl, ?_⟩
        have kz : ∀ z ∈ zs, Kd2 H' (kOf H') z ∧ (kOf H' z).1.natAbs ≤ 50 ∧ (kOf H' z).2.natAbs ≤ 50 := fun z h => by
          obtain ⟨p, hp, b⟩ := hzm z h
          have e := kOf_of hp
          unfold Kd2
          rw [e]
          exact ⟨hp, b⟩
        generalize kOf H' = k' at kz
        refine lcL2 (K := K) (a := D) (xs := zs) (fun i => (.int (k' (zs.getD i .non)).1, .int (k' (zs.getD i .non)).2)) (fun H' _ y => Sm H' y) mono_sm2 (fun R r => ⟨_, rfl, r⟩) (SqL.of hz) (fun i x hi => ?_) (by omega) (fun _ _ => rfl) (fun i x H5 hi s5 Q' q' => ?_) (fun D2 ys H5 hD2 s5 hy e1 e2 => ?_)
        · have gx : zs.getD i .non = x := by rw [List.getD_eq_getElem?_getD, hi]; rfl
          rw [gx]
          obtain ⟨t, e, h⟩ := (kz x (List.mem_of_getElem? hi)).1
          exact ⟨t, e, SqT.of h⟩
        · have gx : zs.getD i .non = x := by rw [List.getD_eq_getElem?_getD, hi]; rfl
          have hb := (kz x (List.mem_of_getElem? hi)).2
          rw [gx]
          exact ⟨_, rfl, _, rfl, _, rfl, _, rfl, by show 2 ≤ sizeLine; decide, fun p3 hp3 => q' _ _ (Sm.of upd_same (by omega) (by omega)) (same_new hp3)⟩
        · refine ⟨_, _, _, _, rfl, rfl, s5 _ _ hz, hy, ?_, fun D3 hD3 => ⟨8, rfl, D3, _, rfl, SqL.of upd_same, fun D4 hD4 => ?_⟩⟩
          · rw [e1]
            exact Nat.le_trans (by omega : _ ≤ 16) (by decide)
          · rw [cut_8]
            have s6 := (same_new (p := D3) (o := HO.lst (zs ++ ys)) hD3).trans (same_new (p := D4) (o := HO.lst ((zs ++ ys).take 8)) hD4)
            refine ⟨D4, _, _, _, _, rfl, s4.trans (s5.trans s6), ⟨_, upd_same, by rw [List.length_take]; omega, fun z hz' => ?_⟩⟩
            rcases List.mem_append.mp (List.mem_of_mem_take hz') with h | h
            · exact ((hzm z h).same s5).same s6
            · obtain ⟨i, hi⟩ := List.getElem?_of_mem h
              exact (e2 i z hi).same s6
      · rintro σ' H' ⟨D, o4, o5, o6, o7, rfl, s5, hD5⟩
        obtain ⟨zs, hz, hzl, hzm⟩ := hD5
        change tSeq _ _ _ _ _
        refine seq_of (asg_of ?_)
        unfold tCall tCons tNil
        dsimp only
        have kz : ∀ z ∈ zs, Kd2 H' (kOf H') z ∧ (kOf H' z).1.natAbs ≤ 50 ∧ (kOf H' z).2.natAbs ≤ 50 := fun z h => by
          obtain ⟨p, hp, b⟩ := hzm z h
          have e := kOf_of hp
          unfold Kd2
          rw [e]
          exact ⟨hp, b⟩
        generalize kOf H' = k' at kz
        refine lcL2 (K := K) (a := D) (xs := zs) (fun i => (.int (k' (zs.getD i .non)).1, .int (k' (zs.getD i .non)).2)) (fun H' i y => Tp K H' y (thin [(k' (zs.getD i .non)).1, (k' (zs.getD i .non)).2, ov])) (mono_tp _) (fun R r => ⟨_, rfl, r⟩) (SqL.of hz) (fun i x hi => ?_) (by omega) (fun _ _ => rfl) (fun i x H6 hi s6 Q' q' => ?_) (fun D2 ys H6 hD2 s6 hy e1 e2 => ?_)
        · have gx : zs.getD i .non = x := by rw [List.getD_eq_getElem?_getD, hi]; rfl
          rw [gx]
          obtain ⟨t, e, h⟩ := (kz x (List.mem_of_getElem? hi)).1
          exact ⟨t, e, SqT.of h⟩
        · have gx : zs.getD i .non = x := by rw [List.getD_eq_getElem?_getD, hi]; rfl
          have hb := (kz x (List.mem_of_getElem? hi)).2
          rw [gx] at q' ⊢
          have w50 : ∀ {n : Nat}, n ≤ 50 → n ≤ W2 := fun h => Nat.le_trans h (Nat.le_trans (by decide : 50 ≤ 2 ^ 6) (by unfold W2; exact pup (by decide)))
          exact ⟨_, rfl, _, rfl, _, rfl, _, _, ov, rfl, by omega, w50 hb.1, w50 hb.2, w50 (by omega), fun p H7 s7 tp => q' p H7 tp s7⟩
        · obtain ⟨data, hdata⟩ : ∃ data, data = zs.map fun z => thin [(k' z).1, (k' z).2, ov] := ⟨_, rfl⟩
          have hdl : data.length = ys.length := by rw [hdata, List.length_map, e1]
          have f1 : (ys.zip data).map Prod.fst = ys := List.map_fst_zip (by omega)
          have hit : ∀ m ∈ ys.zip data, Tp K H6 m.1 m.2 ∧ Pk ov.toNat m.2 := fun m hm => by
            obtain ⟨i, hi⟩ := List.getElem?_of_mem hm
            obtain ⟨h1, h2⟩ := List.getElem?_zip_eq_some.mp hi
            have hil : i < zs.length := by
              rw [← e1]
              exact (List.getElem?_eq_some_iff.mp h1).1
            have hzi : zs[i]? = some zs[i] := List.getElem?_eq_getElem hil
            have gx : zs.getD i .non = zs[i] := by rw [List.getD_eq_getElem?_getD, hzi]; rfl
            have t1 := e2 i _ h1
            rw [gx] at t1
            have e3 : m.2 = thin [(k' zs[i]).1, (k' zs[i]).2, ov] := by
              rw [hdata, List.getElem?_map, hzi] at h2
              exact (Option.some.inj h2).symm
            have hb := (kz zs[i] (List.mem_of_getElem? hzi)).2
            obtain ⟨g, x', y', w', g0, i1, i2, i3, PT⟩ := pt_thin (x := (k' zs[i]).1) (y := (k' zs[i]).2) (w := ov) (n := 100) (by omega) (by omega) (by omega) (by omega)
            rw [e3]
            refine ⟨t1, ⟨⟨x', y', w', PT⟩, ?_⟩⟩
            rw [PT.eq]
            show w'.natAbs ∣ ov.toNat
            have : ov.toNat = g.natAbs * w'.natAbs := by
              rw [← Int.natAbs_mul, ← i3]
              omega
            rw [this]
            exact Nat.dvd_mul_left _ _
          have hL0 : 0 < ov.toNat := by omega
          have hL1 : ov.toNat < 2 ^ 60 := Nat.lt_of_le_of_lt (by omega : _ ≤ 5) (by decide)
          have hzl' : (ys.zip data).length ≤ 8 := by rw [List.length_zip]; omega
          refine ⟨D2, ys.zip data, ov.toNat, rfl, by rw [f1]; exact SqL.of hy, hit, by omega, hL0, fun r H7 s7 hr7 => ?_⟩
          have sall := (s5.trans s6).trans s7
          refine ⟨_, rfl, r, _, rfl, Or.inr hr7, _, _, rfl, rfl, _, rfl, ?_⟩
          rw [List.length_map]
          refine ite2 (fun c => ?_) (fun _ => ?_)
          · have h3 : 3 ≤ (hullI ov.toNat (ys.zip data)).length := by have := of_decide_eq_true c; omega
            exact ⟨_, rfl, q _ _ _ _ H7 sall (hullI_sec hL0 hL1 (fun m hm => ⟨(hit m hm).1.same s7, (hit m hm).2⟩) hzl' h3 hr7)⟩
          · refine ⟨by show 3 ≤ sizeLine; decide, fun a1 ha1 => ⟨by show 3 ≤ sizeLine; decide, fun a2 ha2 => ⟨by show 3 ≤ sizeLine; decide, fun a3 ha3 => ⟨by show 3 ≤ sizeLine; decide, fun a4 ha4 => ?_⟩⟩⟩⟩
            have n1 := same_new (p := a1) (o := HO.tup [V.int 0, .int 0, .int 1]) ha1
            have n2 := same_new (p := a2) (o := HO.tup [V.int 2, .int 0, .int 1]) ha2
            have n3 := same_new (p := a3) (o := HO.tup [V.int 1, .int 1, .int 1]) ha3
            have n4 := same_new (p := a4) (o := HO.tup [V.ref a1, .ref a2, .ref a3]) ha4
            have g1 := n4 _ _ (n3 _ _ (n2 _ _ (upd_same (a := a1) (o := HO.tup [V.int 0, .int 0, .int 1]))))
            have g2 := n4 _ _ (n3 _ _ (upd_same (a := a2) (o := HO.tup [V.int 2, .int 0, .int 1])))
            have g3 := n4 _ _ (upd_same (a := a3) (o := HO.tup [V.int 1, .int 1, .int 1]))
            refine q (.ref a4) [V.ref a1, .ref a2, .ref a3] [[0, 0, 1], [2, 0, 1], [1, 1, 1]] 1 _ (sall.trans (((n1.trans n2).trans n3).trans n4)) ⟨⟨a4, rfl, SqT.of upd_same⟩, ⟨rfl, fun i y p hy hp => ?_⟩, tri_sec⟩
            match i, hy, hp with
            | 0, hy, hp => cases hy; cases hp; exact ⟨a1, rfl, SqT.of g1⟩
            | 1, hy, hp => cases hy; cases hp; exact ⟨a2, rfl, SqT.of g2⟩
            | 2, hy, hp => cases hy; cases hp; exact ⟨a3, rfl, SqT.of g3⟩
end
end K8

namespace K8
open PySem L2 Ur Hull
/-! ### heights as whole numbers over one -/
def hv (S : Nat) (n : Int) : List Int := thin [n, (S : Nat)]
theorem thin2_mul {x w k : Int} (hk : 0 < k) (hw : 0 < w) : thin [k * x, k * w] = thin [x, w] := by
  obtain ⟨g, p, r, g0, e1, e2, e3, e4⟩ := thin2 (x := x) hw
  obtain ⟨g', p', r', g0', e1', e2', e3', e4'⟩ := thin2 (x := k * x) (w := k * w) (Int.mul_pos hk hw)
  rw [e3, e3']
  have r0 := pos_of g0 (e2 ▸ hw)
  have r0' := pos_of g0' (e2' ▸ Int.mul_pos hk hw)
  -- p / r = p' / r', both reduced
  have cr : p' * r = p * r' := by
    have h1 : g' * p' * (g * r) = k * x * w := by rw [← e1', ← e2]
    have h2 : g' * r' * (g * p) = k * w * x := by rw [← e2', ← e1]
    have h3 : (g' * g) * (p' * r) = (g' * g) * (p * r') := by grind
    exact Int.eq_of_mul_eq_mul_left (by have := Int.mul_pos g0' g0; omega) h3
  have d1 : r'.natAbs ∣ r.natAbs := by
    have : r'.natAbs ∣ p'.natAbs * r.natAbs := by
      rw [← Int.natAbs_mul, cr, Int.natAbs_mul]
      exact Nat.dvd_mul_left _ _
    exact (Nat.Coprime.symm e4').dvd_of_dvd_mul_left this
  have d2 : r.natAbs ∣ r'.natAbs := by
    have : r.natAbs ∣ p.natAbs * r'.natAbs := by
      rw [← Int.natAbs_mul, ← cr, Int.natAbs_mul]
      exact Nat.dvd_mul_left _ _
    exact (Nat.Coprime.symm e4).dvd_of_dvd_mul_left this
  have er : r = r' := by
    have := Nat.dvd_antisymm d1 d2
    omega
  subst er
  have : p' = p := Int.eq_of_mul_eq_mul_right (by omega) cr
  rw [this]
theorem ht_hv {S : Nat} (h0 : 0 < S) {p : List Int} (h : Pk S p) (c s : Int) : htF c s p = hv S (ht c s (fsc S p)) := by
  obtain ⟨x, y, w, k, A, k0, hS, e⟩ := pk_form h0 h
  have ep := A.eq
  subst ep
  rw [e]
  unfold hv
  have e1 : htF c s [x, y, w] = thin [c * x + s * y, w] := by
    show thin [c * x + s * y, 1 * w] = _
    rw [Int.one_mul]
  have e2 : ht c s (x * k, y * k) = k * (c * x + s * y) := by unfold ht; simp only; grind
  rw [e1, e2, hS, Int.mul_comm w k, thin2_mul k0 A.pos]
theorem hv_form {S : Nat} (h0 : 0 < S) (n : Int) : ∃ g p r : Int, 0 < g ∧ n = g * p ∧ (S : Int) = g * r ∧ hv S n = [p, r] ∧ 0 < r ∧ Nat.gcd p.natAbs r.natAbs = 1 := by
  obtain ⟨g, p, r, g0, e1, e2, e3, e4⟩ := thin2 (x := n) (w := (S : Int)) (by omega)
  exact ⟨g, p, r, g0, e1, e2, e3, pos_of g0 (by rw [← e2]; omega), e4⟩
theorem hv_ord {S : Nat} (h0 : 0 < S) (n m : Int) : ordL (hv S n) (hv S m) = sgn (n - m) := by
  obtain ⟨g, p, r, g0, e1, e2, e3, r0, _⟩ := hv_form h0 n
  obtain ⟨g', p', r', g0', e1', e2', e3', r0', _⟩ := hv_form h0 m
  rw [e3, e3']
  show sgn (p * r' - p' * r) = _
  have h1 : (n - m) * (r * r') = (S : Int) * (p * r' - p' * r) := by
    have a1 : n * (r * r') = (S : Int) * (p * r') := by rw [e1, e2]; grind
    have a2 : m * (r * r') = (S : Int) * (p' * r) := by rw [e1', e2']; grind
    grind
  have h2 : sgn ((r * r') * (n - m)) = sgn (n - m) := sgn_pos (Int.mul_pos r0 r0')
  have h3 : sgn ((S : Int) * (p * r' - p' * r)) = sgn (p * r' - p' * r) := sgn_pos (by omega)
  rw [← h3, ← h1, Int.mul_comm, h2]
theorem sgn_lt {n : Int} : sgn n < 0 ↔ n < 0 := by unfold sgn; split <;> (try split) <;> omega
def mnI (l a : Int) : Int := if a < l then a else l
def mxI (l a : Int) : Int := if l < a then a else l
theorem low_hv {S : Nat} (h0 : 0 < S) (l a : Int) : lowF (hv S l) (hv S a) = hv S (mnI l a) := by
  unfold lowF mnI
  rw [hv_ord h0]
  have : sgn (a - l) < 0 ↔ a < l := by rw [sgn_lt]; omega
  by_cases c : a < l
  · rw [if_pos c, if_pos (this.mpr c)]
  · rw [if_neg c, if_neg (fun z => c (this.mp z))]
theorem high_hv {S : Nat} (h0 : 0 < S) (l a : Int) : highF (hv S l) (hv S a) = hv S (mxI l a) := by
  unfold highF mxI
  rw [hv_ord h0]
  have : sgn (l - a) < 0 ↔ l < a := by rw [sgn_lt]; omega
  by_cases c : l < a
  · rw [if_pos c, if_pos (this.mpr c)]
  · rw [if_neg c, if_neg (fun z => c (this.mp z))]
theorem fold_low {S : Nat} (h0 : 0 < S) : ∀ (ns : List Int) (l : Int), (ns.map (hv S)).foldl lowF (hv S l) = hv S (ns.foldl mnI l)
  | [], l => rfl
  | n :: r, l => by
    rw [List.map_cons, List.foldl_cons, low_hv h0, fold_low h0 r]
    rfl
theorem fold_high {S : Nat} (h0 : 0 < S) : ∀ (ns : List Int) (l : Int), (ns.map (hv S)).foldl highF (hv S l) = hv S (ns.foldl mxI l)
  | [], l => rfl
  | n :: r, l => by
    rw [List.map_cons, List.foldl_cons, high_hv h0, fold_high h0 r]
    rfl
theorem fold_mn : ∀ (ns : List Int) (l : Int), ns.foldl mnI l ≤ l ∧ (∀ n ∈ ns, ns.foldl mnI l ≤ n) ∧ (ns.foldl mnI l = l ∨ ns.foldl mnI l ∈ ns)
  | [], l => ⟨Int.le_refl _, by simp, Or.inl rfl⟩
  | n :: r, l => by
    obtain ⟨a, b, c⟩ := fold_mn r (mnI l n)
    have h1 : mnI l n ≤ l := by unfold mnI; split <;> omega
    have h2 : mnI l n ≤ n := by unfold mnI; split <;> omega
    refine ⟨Int.le_trans a h1, fun m hm => ?_, ?_⟩
    · rcases List.mem_cons.mp hm with rfl | k
      · exact Int.le_trans a h2
      · exact b m k
    · rcases c with c | c
      · have : mnI l n = l ∨ mnI l n = n := by unfold mnI; split <;> simp
        rcases this with e | e
        · exact Or.inl (c.trans e)
        · exact Or.inr (List.mem_cons.mpr (Or.inl (c.trans e)))
      · exact Or.inr (List.mem_cons_of_mem _ c)
theorem fold_mx : ∀ (ns : List Int) (l : Int), l ≤ ns.foldl mxI l ∧ (∀ n ∈ ns, n ≤ ns.foldl mxI l) ∧ (ns.foldl mxI l = l ∨ ns.foldl mxI l ∈ ns)
  | [], l => ⟨Int.le_refl _, by simp, Or.inl rfl⟩
  | n :: r, l => by
    obtain ⟨a, b, c⟩ := fold_mx r (mxI l n)
    have h1 : l ≤ mxI l n := by unfold mxI; split <;> omega
    have h2 : n ≤ mxI l n := by unfold mxI; split <;> omega
    refine ⟨Int.le_trans h1 a, fun m hm => ?_, ?_⟩
    · rcases List.mem_cons.mp hm with rfl | k
      · exact Int.le_trans h2 a
      · exact b m k
    · rcases c with c | c
      · have : mxI l n = l ∨ mxI l n = n := by unfold mxI; split <;> simp
        rcases this with e | e
        · exact Or.inl (c.trans e)
        · exact Or.inr (List.mem_cons.mpr (Or.inl (c.trans e)))
      · exact Or.inr (List.mem_cons_of_mem _ c)
/-- the least of a row, told by what it is -/
theorem mn_is {n : Int} {ns : List Int} {v : Int} (h1 : v ∈ n :: ns) (h2 : ∀ m ∈ n :: ns, v ≤ m) : ns.foldl mnI n = v := by
  obtain ⟨a, b, c⟩ := fold_mn ns n
  have h3 : v ≤ ns.foldl mnI n := h2 _ (List.mem_cons.mpr c)
  rcases List.mem_cons.mp h1 with e | k
  · omega
  · have := b v k
    omega
theorem mx_is {n : Int} {ns : List Int} {v : Int} (h1 : v ∈ n :: ns) (h2 : ∀ m ∈ n :: ns, m ≤ v) : ns.foldl mxI n = v := by
  obtain ⟨a, b, c⟩ := fold_mx ns n
  have h3 : ns.foldl mxI n ≤ v := h2 _ (List.mem_cons.mpr c)
  rcases List.mem_cons.mp h1 with e | k
  · omega
  · have := b v k
    omega
/-! ### the heights of a section -/
def hgt (S : Nat) (c s : Int) (pts : List (List Int)) : List Int := pts.map fun p => ht c s (fsc S p)
def minL : List Int → Int
  | [] => 0
  | n :: r => r.foldl mnI n
def maxL : List Int → Int
  | [] => 0
  | n :: r => r.foldl mxI n
theorem minL_is {ns : List Int} {v : Int} (h1 : v ∈ ns) (h2 : ∀ m ∈ ns, v ≤ m) : minL ns = v := by
  cases ns with
  | nil => cases h1
  | cons n r => exact mn_is h1 h2
theorem maxL_is {ns : List Int} {v : Int} (h1 : v ∈ ns) (h2 : ∀ m ∈ ns, m ≤ v) : maxL ns = v := by
  cases ns with
  | nil => cases h1
  | cons n r => exact mx_is h1 h2
theorem minL_of {ns : List Int} (h : ns ≠ []) : minL ns ∈ ns ∧ ∀ m ∈ ns, minL ns ≤ m := by
  cases ns with
  | nil => exact (h rfl).elim
  | cons n r =>
    obtain ⟨a, b, c⟩ := fold_mn r n
    exact ⟨List.mem_cons.mpr c, fun m hm => by
      rcases List.mem_cons.mp hm with e | k
      · rw [e]; exact a
      · exact b m k⟩
theorem maxL_of {ns : List Int} (h : ns ≠ []) : maxL ns ∈ ns ∧ ∀ m ∈ ns, m ≤ maxL ns := by
  cases ns with
  | nil => exact (h rfl).elim
  | cons n r =>
    obtain ⟨a, b, c⟩ := fold_mx r n
    exact ⟨List.mem_cons.mpr c, fun m hm => by
      rcases List.mem_cons.mp hm with e | k
      · rw [e]; exact a
      · exact b m k⟩
theorem lo_is {S : Nat} (h0 : 0 < S) {pts : List (List Int)} (h : ∀ p ∈ pts, Pk S p) (hne : pts ≠ []) (c s : Int) : loOf (pts.map (htF c s)) = hv S (minL (hgt S c s pts)) := by
  have e : pts.map (htF c s) = (hgt S c s pts).map (hv S) := by
    unfold hgt
    rw [List.map_map]
    exact List.map_congr_left fun p hp => ht_hv h0 (h p hp) c s
  rw [e]
  cases pts with
  | nil => exact (hne rfl).elim
  | cons p r => exact fold_low h0 _ _
theorem hi_is {S : Nat} (h0 : 0 < S) {pts : List (List Int)} (h : ∀ p ∈ pts, Pk S p) (hne : pts ≠ []) (c s : Int) : hiOf (pts.map (htF c s)) = hv S (maxL (hgt S c s pts)) := by
  have e : pts.map (htF c s) = (hgt S c s pts).map (hv S) := by
    unfold hgt
    rw [List.map_map]
    exact List.map_congr_left fun p hp => ht_hv h0 (h p hp) c s
  rw [e]
  cases pts with
  | nil => exact (hne rfl).elim
  | cons p r => exact fold_high h0 _ _
/-! ### upside down -/
def negF : List Int → List Int
  | [t, e] => [-t, e]
  | _ => []
theorem hv_neg {S : Nat} (h0 : 0 < S) (n : Int) : hv S (-n) = negF (hv S n) := by
  obtain ⟨g, p, r, g0, e1, e2, e3, r0, e4⟩ := hv_form h0 n
  rw [e3]
  show hv S (-n) = [-p, r]
  have : hv S (-n) = thin [-p, r] := by
    unfold hv
    have : -n = g * -p := by rw [e1]; grind
    rw [this, e2, thin2_mul g0 r0]
  rw [this]
  refine thin_one ?_
  rw [gAll_2, Int.natAbs_neg]
  exact e4
theorem hgt_neg (S : Nat) (c s : Int) (pts : List (List Int)) : hgt S (-c) (-s) pts = (hgt S c s pts).map fun n => -n := by
  unfold hgt
  rw [List.map_map]
  refine List.map_congr_left
        fun p _ => ?_
  show ht (-c) (-s) (fsc S p) = - ht c s (fsc S p)
  unfold ht
  grind
theorem minL_neg {ns : List Int} (h : ns ≠ []) : minL (ns.map fun n => -n) = - maxL ns := by
  obtain ⟨a, b⟩ := maxL_of h
  refine minL_is (List.mem_map.mpr ⟨_, a, rfl⟩) fun m hm => ?_
  obtain ⟨n, hn, rfl⟩ := List.mem_map.mp hm
  have := b n hn
  omega
theorem maxL_neg {ns : List Int} (h : ns ≠ []) : maxL (ns.map fun n => -n) = - minL ns := by
  obtain ⟨a, b⟩ := minL_of h
  refine maxL_is (List.mem_map.mpr ⟨_, a, rfl⟩) fun m hm => ?_
  obtain ⟨n, hn, rfl⟩ := List.mem_map.mp hm
  have := b n hn
  omega
/-! ### turned -/
theorem qtr_pk {S : Nat} {p : List Int} (h : Pk S p) : Pk S (qtrL p) := by
  obtain ⟨x, y, w, A⟩ := h.pt
  have hd := h.dv
  have e := A.eq
  subst e
  exact ⟨⟨-y, x, w, pt_qtr A⟩, hd⟩
theorem qtr_rot {S : Nat} {p : List Int} (h : Pk S p) : fsc S (qtrL p) = rot (fsc S p) := by
  obtain ⟨x, y, w, A⟩ := h.pt
  have e := A.eq
  subst e
  show (-y * ((S : Int) / w), x * ((S : Int) / w)) = (-(y * ((S : Int) / w)), x * ((S : Int) / w))
  rw [Int.neg_mul]
theorem turn_min {S : Nat} (h0 : 0 < S) {pts : List (List Int)} (h : ∀ p ∈ pts, Pk S p) (hne : pts ≠ []) (c s : Int) : minL (hgt S (-s) c (hullL S (pts.map qtrL))) = minL (hgt S c s pts) ∧ maxL (hgt S (-s) c (hullL S (pts.map qtrL))) = maxL (hgt S c s pts) := by
  have hq : ∀ p ∈ pts.map qtrL, Pk S p := fun p hp => by
    obtain ⟨q, hq, rfl⟩
          := List.mem_map.mp hp
    exact qtr_pk (h q hq)
  have hh : ∀ p ∈ pts, ht (-s) c (fsc S (qtrL p)) = ht c s (fsc S p) := fun p hp => by
    rw [qtr_rot (h p hp)]
    unfold ht rot
    simp only
    grind
  have eA : hgt S (-s) c (hullL S (pts.map qtrL)) = (hl ((pts.map qtrL).map (fsc S))).map (ht (-s) c) := by
    rw [← hullL_map h0 hq]
    unfold hgt
    rw [List.map_map]
    rfl
  have sub : ∀ n ∈ hgt S (-s) c (hullL S (pts.map qtrL)), n ∈ hgt S c s pts := fun n hn => by
    rw [eA] at hn
    obtain ⟨q, hq', rfl⟩ := List.mem_map.mp hn
    obtain ⟨p', hp', rfl⟩ := List.mem_map.mp (hl_sub hq')
    obtain ⟨p, hp, rfl⟩ := List.mem_map.mp hp'
    exact List.mem_map.mpr ⟨p, hp, (hh p hp).symm⟩
  have below : ∀ n ∈ hgt S c s pts, ∃ m ∈ hgt S (-s) c (hullL S (pts.map qtrL)), m ≤ n := fun n hn => by
    obtain ⟨p, hp, rfl⟩ := List.mem_map.mp hn
    obtain ⟨d, hd, k⟩ := hl_min (-s) c (l := (pts.map qtrL).map (fsc S)) (q := fsc S (qtrL p)) (List.mem_map.mpr ⟨_, List.mem_map.mpr ⟨p, hp, rfl⟩, rfl⟩)
    refine ⟨ht (-s) c d, by rw [eA]; exact List.mem_map.mpr ⟨d, hd, rfl⟩, ?_⟩
    rw [hh p hp] at k
    exact k
  have above : ∀ n ∈ hgt S c s pts, ∃ m ∈ hgt S (-s) c (hullL S (pts.map qtrL)), n ≤ m := fun n hn => by
    obtain ⟨p, hp, rfl⟩ := List.mem_map.mp hn
    obtain ⟨d, hd, k⟩ := hl_min s (-c) (l := (pts.map qtrL).map (fsc S)) (q := fsc S (qtrL p)) (List.mem_map.mpr ⟨_, List.mem_map.mpr ⟨p, hp, rfl⟩, rfl⟩)
    refine ⟨ht (-s) c d, by rw [eA]; exact List.mem_map.mpr ⟨d, hd, rfl⟩, ?_⟩
    have n1 : ht s (-c) d = - ht (-s) c d := by unfold ht; grind
    have n2 : ht s (-c) (fsc S (qtrL p)) = - ht (-s) c (fsc S (qtrL p)) := by unfold ht; grind
    have := hh p hp
    omega
  have hne2 : hgt S c s pts ≠ [] := by unfold hgt; simpa using hne
  obtain ⟨a1, b1⟩ := minL_of hne2
  obtain ⟨a2, b2⟩ := maxL_of hne2
  constructor
  · obtain ⟨m, hm, k⟩ := below _ a1
    have := b1 m (sub m hm)
    have e : m = minL (hgt S c s pts) := by omega
    exact minL_is (e ▸ hm) fun n hn => b1 n (sub n hn)
  · obtain ⟨m, hm, k⟩ := above _ a2
    have := b2 m (sub m hm)
    have e : m = maxL (hgt S c s pts) := by omega
    exact maxL_is (e ▸ hm) fun n hn => b2 n (sub n hn)
/-! ### texts of data of some size -/
structure Big (d : PyData) (n k : Nat) : Prop where
  ls : PyData.leavesShort 300 d = true
  wt : d.weight ≤ n
  sh : d.showable = true
  hd : d.hasDict = false
  dp : d.depth ≤ k
structure BigA (ds : List PyData) (n k : Nat) : Prop where
  ls : PyData.leavesShortAll 300 ds = true
  wt : PyData.weightAll ds ≤ n
  sh : PyData.showableAll ds = true
  hd : PyData.hasDictAll ds = false
  dp : PyData.depthAll ds ≤ k
theorem BigA.nil {k : Nat} : BigA [] 0 k := ⟨rfl, Nat.le_refl _, rfl, rfl, Nat.zero_le _⟩
theorem BigA.cons {d : PyData} {ds : List PyData} {n m k : Nat} (h : Big d n k) (t : BigA ds m k) : BigA (d :: ds) (n + 1 + m) k := by
  refine ⟨?_, ?_, ?_, ?_, ?_⟩
  · show (PyData.leavesShort 300 d && PyData.leavesShortAll 300 ds) = true
    rw [h.ls, t.ls]
    rfl
  · show d.weight + 1 + PyData.weightAll ds ≤ n + 1 + m
    have := h.wt
    have := t.wt
    omega
  · show (d.showable && PyData.showableAll ds) = true
    rw [h.sh, t.sh]
    rfl
  · show (d.hasDict || PyData.hasDictAll ds) = false
    rw [h.hd, t.hd]
    rfl
  · show max d.depth (PyData.depthAll ds) ≤ k
    have := h.dp
    have := t.dp
    omega
theorem Big.tup {ds : List PyData} {n k : Nat} (h : BigA ds n k) : Big (.tuple ds) n (k + 1) := ⟨h.ls, h.wt, h.sh, h.hd, Nat.succ_le_succ h.dp⟩
theorem Big.lst {ds : List PyData} {n k : Nat} (h : BigA ds n k) : Big (.list ds) n (k + 1) := ⟨h.ls, h.wt, h.sh, h.hd, Nat.succ_le_succ h.dp⟩
theorem Big.up {d : PyData} {n k m j : Nat} (h : Big d n k) (h1 : n ≤ m) (h2 : k ≤ j) : Big d m j := ⟨h.ls, Nat.le_trans h.wt h1, h.sh, h.hd, Nat.le_trans h.dp h2⟩
theorem big_int {n : Int} (h : n.natAbs < 2 ^ 800) : Big (.int n) 801 0 := by
  have e := int_text_length_le10 (a := n) (k := 299) (by decide) (Nat.lt_of_lt_of_le h (by decide +kernel))
  have l : n.natAbs.log2 < 800 := by
    by_cases z : n.natAbs = 0
    · rw [z]; decide
    · exact (Nat.log2_lt z).mpr h
  refine ⟨decide_eq_true ?_, ?_, decide_eq_true (by omega), rfl, Nat.zero_le _⟩
  · show (Str.ofString (toString n)).length ≤ 300
    rw [ofString_length]
    exact e
  · show (if n == 0 then 0 else n.natAbs.log2 + 1) ≤ 801
    split <;> omega
theorem big_fr {a : List Int} (h : Fr (2 ^ 790) a) : Big (tupD a) 1604 1 := by
  obtain ⟨t, e, A⟩ := h
  have ea := A.eq
  subst ea
  have lt : ∀ {z : Int}, z.natAbs ≤ 2 ^ 790 → z.natAbs < 2 ^ 800 := fun h => Nat.lt_of_le_of_lt h (Nat.pow_lt_pow_right (by decide) (by decide))
  exact Big.tup (.cons (big_int (lt A.bt)) (.cons (big_int (lt A.bb)) .nil))
theorem big_frs : ∀ {as : List (List Int)}, (∀ a ∈ as, Fr (2 ^ 790) a) → BigA (as.map tupD) (1605 * as.length) 1
  | [], _ => .nil
  | a :: r, h => by
    have := BigA.cons (big_fr (h a List.mem_cons_self)) (big_frs (as := r) fun x hx => h x (List.mem_cons_of_mem _ hx))
    have e : 1605 * (a :: r).length = 1604 + 1 + 1605 * r.length := by rw [List.length_cons]; omega
    rw [e]
    exact this
/-- what repr asks -/
theorem rep_big {K : PySem.W.Frag} {H : Hp} {a : Addr} {d : PyData} {n k : Nat} {Q : VK} (hd : Dp K H (.ref a) d) (o : Big d n k) (hn : n ≤ 50000) (hk : k ≤ 60) (q : Q (.str d.shown) H) : rRepr K [.ref a] H Q := by
  have h := PyData.shown_le 300 (by decide) d o.ls
  have hw := o.wt
  exact ⟨a, d, rfl, hd, o.sh, o.hd, Nat.le_trans h (Nat.le_trans (by omega : (300 + 2) * d.weight + 300 ≤ 16200000) (by decide)), Nat.le_trans o.dp hk, q⟩
end K8

namespace K8
open PySem L2 Ur Hull
abbrev sRight : Stmt := top 63
abbrev sLaw : Stmt := top 64
/-- the points of a turn and their heights -/
structure Trn (K : PySem.W.Frag) (H : Hp) (va : V) (a : List Int) (c s : Int) (Dp Dd : Addr) (Ps : List (List Int)) : Prop where
  ta : Tp K H va a
  sp : ∃ xs, H Dp = some (.lst xs) ∧ Al (Tp K H) xs Ps
  du : ∃ ys, H Dd = some (.lst ys) ∧ Al (Tp K H) ys (Ps.map (htF c s))
theorem Al.tps {K : PySem.W.Frag} {H H' : Hp} {xs : List V} {ps : List (List Int)} (h : Al (Tp K H) xs ps) (s : Same H H') : Al (Tp K H') xs ps := h.mono fun _ _ q => q.same s
theorem Trn.same {K : PySem.W.Frag} {H H' : Hp} {va : V} {a : List Int} {c s : Int} {Dp Dd : Addr} {Ps : List (List Int)} (h : Trn K H va a c s Dp Dd Ps) (e : Same H H') : Trn K H' va a c s Dp Dd Ps :=
  ⟨h.ta.same e, let ⟨xs, g, k⟩ := h.sp; ⟨xs, e _ _ g, k.tps e⟩, let ⟨xs, g, k⟩ := h.du; ⟨xs, e _ _ g, k.tps e⟩⟩
theorem Al.of_made {K : PySem.W.Frag} {H : Hp} {ys : List V} {ps : List (List Int)} {f : List Int → List Int} (hl : ys.length = ps.length) (h : ∀ i y, ys[i]? = some y → Tp K H y (f (ps.getD i []))) : Al (Tp K H) ys (ps.map f) :=
  ⟨by rw [hl, List.length_map], fun i y p hy hp => by
    have h1 := h i y hy
    rw [List.getElem?_map] at hp
    cases e : ps[i]? with
    | none => rw [e] at hp; cases hp
    | some z =>
      rw [e] at hp
      have : ps.getD i [] = z := by rw [List.getD_eq_getElem?_getD, e]; rfl
      rw [this] at h1
      rw [← Option.some.inj hp]
      exact h1⟩
theorem fr790 {u p : List Int} {c s x y w : Int} (A : DrL 9 u c s) (B : PtL (2 ^ 700) p x y w) : Fr (2 ^ 790) (htF c s p) := by
  obtain ⟨g, t, e, _, _, _, F⟩ := fr_inn (A.pt (by decide)) B
  exact ⟨t, e, F.up (Nat.le_trans (pw3 (a := 4) (by decide) (Nat.le_refl _)) (pup (by decide)))⟩
theorem Al.paired {α : Type} {R : V → α → Prop} : ∀ {ys : List V} {ps : List α}, Al R ys ps → Paired R ys ps
  | [], [], _ => .nil
  | [], _ :: _, h => by cases h.len
  | _ :: _, [], h => by cases h.len
  | y :: ys, p :: ps, h => .cons (h.at_ 0 y p rfl rfl) (Al.paired ⟨Nat.succ.inj h.len, fun i z q a b => h.at_ (i + 1) z q a b⟩)
theorem dp_frs {K : PySem.W.Frag} {H : Hp} {D : Addr} {ys : List V} {ps : List (List Int)} (h : H D = some (.lst ys)) (A : Al (Tp K H) ys ps) : Dp K H (.ref D) (.list (ps.map tupD)) := dp_list h (dpAll_tps A.paired)
theorem cut_n (xs : List V) (n : Nat) : cutV xs none (some (n : Int)) = xs.take n := by
  unfold cutV
  have e1 : HT.sIx xs.length 0 none = 0 := rfl
  have e2 : HT.sIx xs.length xs.length (some (n : Int)) = min n xs.length := HT.sIx_nat xs.length xs.length n
  rw [e1, e2, List.drop_zero, Nat.sub_zero]
  rcases Nat.le_total n xs.length with h | h
  · rw [Nat.min_eq_left h]
  · rw [Nat.min_eq_right h, List.take_of_length_le h, List.take_of_length_le (Nat.le_refl _)]
theorem Al.take {α : Type} {R : V → α → Prop} {ys : List V} {ps : List α} (h : Al R ys ps) (n : Nat) : Al R (ys.take n) (ps.take n) := by
  refine ⟨by rw [List.length_take, List.length_take, h.len], fun i y p hy hp => ?_⟩
  rw [List.getElem?_take] at hy hp
  by_cases c : i < n
  · rw [if_pos c] at hy hp
    exact h.at_ i y p hy hp
  · rw [if_neg c] at hy
    cases hy
theorem ord_anti {a b : List Int} {t e u d : Int} {n m : Nat} (A : FrL n a t e) (B : FrL m b u d) : 0 < ordL a b ↔ ordL b a < 0 := by
  have ea := A.eq
  have eb := B.eq
  subst ea eb
  show 0 < sgn (t * d - u * e) ↔ sgn (u * e - t * d) < 0
  generalize t * d = x
  generalize u * e = y
  unfold sgn
  by_cases h1 : 0 < x - y
  · rw [if_pos h1, if_neg (by omega : ¬ 0 < y - x), if_pos (by omega : y - x < 0)]
    decide
  · rw [if_neg h1]
    by_cases h2 : x - y < 0
    · rw [if_pos h2, if_pos (by omega : 0 < y - x)]
      decide
    · rw [if_neg h2, if_neg (by omega : ¬ 0 < y - x), if_neg (by omega : ¬ y - x < 0)]
theorem low_self (l : List Int) : lowF l l = l := by unfold lowF; split <;> rfl
theorem high_self (l : List Int) : highF l l = l := by unfold highF; split <;> rfl
theorem fold_lowfr {n : Nat} : ∀ {hs : List (List Int)} {l : List Int}, Fr n l → (∀ h ∈ hs, Fr n h) → Fr n (hs.foldl lowF l)
  | [], _, hl, _ => hl
  | h :: r, _, hl, k => fold_lowfr (hs := r) (lowF_fr hl (k h List.mem_cons_self)) fun z hz => k z (List.mem_cons_of_mem _ hz)
theorem fold_highfr {n : Nat} : ∀ {hs : List (List Int)} {l : List Int}, Fr n l → (∀ h ∈ hs, Fr n h) → Fr n (hs.foldl highF l)
  | [], _, hl, _ => hl
  | h :: r, _, hl, k => fold_highfr (hs := r) (highF_fr hl (k h List.mem_cons_self)) fun z hz => k z (List.mem_cons_of_mem _ hz)
theorem lo_fr {n : Nat} {hs : List (List Int)} (hne : hs ≠ []) (h : ∀ z ∈ hs, Fr n z) : Fr n (loOf hs) := by
  cases hs with
  | nil => exact (hne rfl).elim
  | cons a r => exact fold_lowfr (h a List.mem_cons_self) fun z hz => h z (List.mem_cons_of_mem _ hz)
theorem hi_fr {n : Nat} {hs : List (List Int)} (hne : hs ≠ []) (h : ∀ z ∈ hs, Fr n z) : Fr n (hiOf hs) := by
  cases hs with
  | nil => exact (hne rfl).elim
  | cons a r => exact fold_highfr (h a List.mem_cons_self) fun z hz => h z (List.mem_cons_of_mem _ hz)
theorem neg_fr {n : Nat} {a : List Int} (h : Fr n a) : Fr n (negF a) := by
  obtain ⟨t, e, A⟩ := h
  have ea := A.eq
  subst ea
  exact ⟨-t, e, rfl, A.pos, by rw [Int.natAbs_neg]; exact A.red, by rw [Int.natAbs_neg]; exact A.bt, A.bb⟩
/-- two told heights -/
def Two (K : PySem.W.Frag) (H : Hp) (v : V) (a b : List Int) : Prop := ∃ (t : Addr) (x y : V), v = .ref t ∧ SqT K H t [x, y] ∧ Tp K H x a ∧ Tp K H y b
theorem Two.same {K : PySem.W.Frag} {H H' : Hp} {v : V} {a b : List Int} (s : Same H H') (h : Two K H v a b) : Two K H' v a b := by
  obtain ⟨t, x, y, e, q, hx, hy⟩ := h
  exact ⟨t, x, y, e, same_sqT s q, hx.same s, hy.same s⟩
abbrev twoD (a b : List Int) : PyData := .tuple [tupD a, tupD b]
theorem Two.dp {K : PySem.W.Frag} {H : Hp} {v : V} {a b : List Int} (h : Two K H v a b) : Dp K H v (twoD a b) := by
  obtain ⟨t, x, y, rfl, q, hx, hy⟩ := h
  exact .tup q (.cons hx.dp (.cons hy.dp .nil))
theorem big_two {a b : List Int} (ha : Fr (2 ^ 790) a) (hb : Fr (2 ^ 790) b) : Big (twoD a b) 3210 2 := Big.tup (.cons (big_fr ha) (.cons (big_fr hb) .nil))
theorem rep_two {K : PySem.W.Frag} {H : Hp} {v : V} {a b : List Int} {Q : VK} (h : Two K H v a b) (ha : Fr (2 ^ 790) a) (hb : Fr (2 ^ 790) b) (q : Q (.str (twoD a b).shown) H) : rRepr K [v] H Q := by
  have hd := h.dp
  obtain ⟨t, x, y, rfl, _⟩ := h
  exact rep_big hd (big_two ha hb) (by decide) (by decide) q
theorem big_three {a b c d e f : List Int} (ha : Fr (2 ^ 790) a) (hb : Fr (2 ^ 790) b) (hc : Fr (2 ^ 790) c) (hd : Fr (2 ^ 790) d) (he : Fr (2 ^ 790) e) (hf : Fr (2 ^ 790) f) : Big (.list [twoD a b, twoD c d, twoD e f]) 9633 3 :=
  Big.lst (.cons (big_two ha hb) (.cons (big_two hc hd) (.cons (big_two he hf) .nil)))
theorem big_facts {d : PyData} {n k : Nat} (o : Big d n k) (hn : n ≤ 50000) (hk : k ≤ 60) : d.showable = true ∧ d.hasDict = false ∧ d.shown.length ≤ sizeLine ∧ d.depth ≤ 60 := by
  have h := PyData.shown_le 300 (by decide) d o.ls
  have hw := o.wt
  exact ⟨o.sh, o.hd, Nat.le_trans h (Nat.le_trans (by omega : (300 + 2) * d.weight + 300 ≤ 16200000) (by decide)), Nat.le_trans o.dp hk⟩
theorem ne_same {z : Str} {R : Bool → Prop} (q : R false) : ∃ k, V.bl (!decide (V.str z = V.str z)) = V.bl k ∧ R k := ⟨false, congrArg V.bl (by rw [decide_eq_true rfl]; rfl), q⟩
theorem DrL.neg {n : Nat} {a : List Int} {c s : Int} (h : DrL n a c s) : DrL n [-c, -s] (-c) (-s) := ⟨rfl, by rw [Int.natAbs_neg, Int.natAbs_neg]; exact h.red, by rw [Int.natAbs_neg]; exact h.bc, by rw [Int.natAbs_neg]; exact h.bs⟩
theorem DrL.turn {n : Nat} {a : List Int} {c s : Int} (h : DrL n a c s) : DrL n [-s, c] (-s) c := ⟨rfl, by rw [Int.natAbs_neg, Nat.gcd_comm]; exact h.red, by rw [Int.natAbs_neg]; exact h.bs, h.bc⟩
/-- the heights the other way up -/
theorem lo_neg {S : Nat} (h0 : 0 < S) {pts : List (List Int)} (h : ∀ p ∈ pts, Pk S p) (hne : pts ≠ []) (c s : Int) : loOf (pts.map (htF (-c) (-s))) = negF (hiOf (pts.map (htF c s))) ∧ hiOf (pts.map (htF (-c) (-s))) = negF (loOf (pts.map (htF c s))) := by
  have hh : hgt S c s pts ≠ [] := by unfold hgt; simpa using hne
  rw [lo_is h0 h hne, hi_is h0 h hne, hi_is h0 h hne, lo_is h0 h hne, hgt_neg, minL_neg hh, maxL_neg hh, hv_neg h0, hv_neg h0]
  exact ⟨rfl, rfl⟩
theorem lo_turn {S : Nat} (h0 : 0 < S) {pts : List (List Int)} (h : ∀ p ∈ pts, Pk S p) (hne : pts ≠ []) (hn2 : hullL S (pts.map qtrL) ≠ []) (c s : Int) : loOf ((hullL S (pts.map qtrL)).map (htF (-s) c)) = loOf (pts.map (htF c s)) ∧ hiOf ((hullL S (pts.map qtrL)).map (htF (-s) c)) = hiOf (pts.map (htF c s)) := by
  have hq : ∀ p ∈ pts.map qtrL, Pk S p := fun p hp => by
    obtain ⟨q, hq, rfl⟩
          := List.mem_map.mp hp
    exact qtr_pk (h q hq)
  have hm : ∀ p ∈ hullL S (pts.map qtrL), Pk S p := fun p hp => hq p (hullL_mem h0 hq hp)
  obtain ⟨e1, e2⟩ := turn_min h0 h hne c s
  rw [lo_is h0 hm hn2, hi_is h0 hm hn2, lo_is h0 h hne, hi_is h0 h hne, e1, e2]
  exact ⟨rfl, rfl⟩
theorem sec_self {S : Nat} {pts : List (List Int)} (h : Sec pts S) : hl (pts.map (fsc S)) = pts.map (fsc S) := by
  have h0 := h.pol.scb.s0
  have hP : ∀ p ∈ pts, Pk S p := fun p hp => ⟨h.pol.scb.ok p hp, h.pol.scb.dvd p hp⟩
  have e1 : hullL S pts = pts := (hullL_indep h0 hP).trans h.pol.self
  rw [← hullL_map h0 hP, e1]
theorem sec_turn {S : Nat} {pts : List (List Int)} (h : Sec pts S) : 3 ≤ (hullL S (pts.map qtrL)).length := by
  have hP : ∀ p ∈ pts, Pk S p := fun p hp => ⟨h.pol.scb.ok p hp, h.pol.scb.dvd p hp⟩
  have e1 : (pts.map qtrL).map (fsc S) = (pts.map (fsc S)).map rot := by
    rw [List.map_map,
          List.map_map]
    exact List.map_congr_left fun p hp => qtr_rot (hP p hp)
  unfold hullL
  rw [List.length_map, e1]
  exact rot_three (sec_self h) (by rw [List.length_map]; exact h.three)
def spRight : Sp := fun vs H Q _ => ∃ u : Addr, vs = [.ref u] ∧ H u = some (UrnO u) ∧ ∀ H' : Hp, Same H H' → Q (.bl true) H'
section
variable {P' : Program} {w : World} {K :
      PySem.W.Frag} {mg : Str → Option Value} {base : Heap}
abbrev n_law_right : List Str := ["_law_urn_here", "_law_plate_here", "_law_step", "_law_aim_here", "_law_spots", "_law_due", "_law_low", "_law_high", "_law_part", "_law_back", "_law_told", "_law_turn", "_law_spot_here"]
abbrev p_law_right : List Str := ["_law_urn_here"]
theorem sc_law_right : FnScope n_law_right p_law_right (defScope sRight) := ⟨rfl, rfl, rfl, by decide +kernel, rfl, by decide +kernel, by decide +kernel⟩
set_option
      maxHeartbeats 4000000 in
theorem ok_right {f : Addr} {fd : FuncData} (F : Fun K "_law_right" "_law_right" sRight f fd) (T : Bl mg) (H_law_plate : Has P' w K mg base "_law_plate" p_lurn 8 (spPlate K)) (H_law_aim : Has P' w K mg base "_law_aim" p_lurn 3 (spAim K)) (H_law_mass : Has P' w K mg base "_law_mass" p_lmass 6 (spMass K))
    (H_law_middle : Has P' w K mg base "_law_middle" p_lspots 5 (spMid K)) (H_law_tall : Has P' w K mg base "_law_tall" p_ltall 4 (spUp K)) (H_height_of : Has P' w K mg base "height_of" p_up 5 (spUp K)) (HR_height_of : HasR P' w K mg base "height_of" p_up 5 (spUp K)) (H_law_cmp : Has P' w K mg base "_law_cmp" p_l12 1 (spOrd K))
    (H_heights : Has P' w K mg base "heights" p_su 7 (spHts K)) (HR_heights : HasR P' w K mg base "heights" p_su 7 (spHts K)) (H_law_hull : Has P' w K mg base "_law_hull" p_lspots 7 (spLHull K)) (H_law_quarter : Has P' w K mg base "_law_quarter" p_lstep 1 (spP1 K qtrL)) : FnG P' w K mg base CX0 9 f fd p_law_right spRight := by
  refine okG F sc_law_right (fun vs H Q E h => ?_) (fun cdv A outer s H vs Q E hg hr h => ?_)
  · obtain ⟨u, rfl, _⟩ := h
    rfl
  · obtain ⟨u, rfl, hu0, q⟩ := h
    have hu : (A.deeper (PyProof.Rows.envOfC "_law_right" (defScope sRight) s.heap.objs.size f cdv)).units + 64 < cLine := hr.units
    refine ⟨_, (pss_cons (ps_set (i := 1) sc_law_right.nd rfl (Or.inl rfl) (pe_has H_law_plate (hr.mono (by decide)) (by rfl) (pa_cons (pv 0) pa_nil)))
      (pss_cons (ps_for PassesOwn.never rfl (pi_range1 (by rfl) T.range (pa_cons pe_int pa_nil)) (pg_name (i := 2) sc_law_right.nd rfl (Or.inl rfl)) (pss_cons (ps_set (i := 3) sc_law_right.nd rfl (Or.inr rfl) (pe_has H_law_aim (hr.mono (by decide)) (by rfl) (pa_cons (pv 0) pa_nil)))
      (pss_cons (ps_set (i := 4) sc_law_right.nd rfl (Or.inl rfl) (pe_op op_cat (pe_callTy call_list_of (by rfl) T.list PyProof.Rows.boot_list (pa_cons (pv 1) pa_nil)) (pe_lst (pa_cons (pe_has H_law_mass (hr.mono (by decide)) (by rfl) (pa_cons (pv 0) (pa_cons (pv 1) pa_nil))) (pa_cons (pe_has H_law_middle (hr.mono (by decide)) (by rfl) (pa_cons (pv 1) pa_nil)) pa_nil)))))
      (pss_mid (ps_setLc (i := 5) (own := [("_law_spot_here", 12)]) (g := gName 12) (tt := tYes) rfl sc_law_right.nd rfl rfl (sw_true rfl rfl rfl (by decide +kernel)) (pi_list (pv 4)) (blkOk_by (N := n_law_right) (sc := defScope sRight) (by decide +kernel)) (fun _ _ _ _ _ => pg_name (i := 12) sc_law_right.nd rfl (Or.inl rfl)) (fun _ _ _ _ _ => pts_nil) (fun _ _ _ _ _ => (pe_has H_law_tall (hr.mono (by decide)) (by rfl) (pa_cons (pv 3) (pa_cons (pv 12) pa_nil)))))
      (pss_mid (ps_if (PW.pt (pw_or (pt_cmpR op_ne (pe_callB (call_repr hg hu) (by rfl) T.repr PyProof.Rows.boot_repr (pa_cons (pe_lc (own := [("_law_spot_here", 12)]) (g := gName 12) (tt := tYes) rfl sc_law_right.nd (pi_list (pv 4)) (blkOk_by (N := n_law_right) (sc := defScope sRight) (by decide +kernel)) (fun _ _ _ _ _ => pg_name (i := 12) sc_law_right.nd rfl (Or.inl rfl)) (fun _ _ _ _ _ => pts_nil) (fun _ _ _ _ _ => (pe_has H_height_of (hr.mono (by decide)) (by rfl) (pa_cons (pv 3) (pa_cons (pv 12) pa_nil))))) pa_nil)) (pe_callB (call_repr hg hu) (by rfl) T.repr PyProof.Rows.boot_repr (pa_cons (pv 5) pa_nil)) (nomark _)) (pw_or1 (pt_cmpR op_ne (pe_callB (call_repr hg hu) (by rfl) T.repr PyProof.Rows.boot_repr (pa_cons (pe_lc (own := [("_law_spot_here", 12)]) (g := gName 12) (tt := tYes) rfl sc_law_right.nd (pi_list (pv 4)) (blkOk_by (N := n_law_right) (sc := defScope sRight) (by decide +kernel)) (fun _ _ _ _ _ => pg_name (i := 12) sc_law_right.nd rfl (Or.inl rfl)) (fun _ _ _ _ _ => pts_nil) (fun _ _ _ _ _ => (pe_hasR0 HR_height_of (hr.mono (by decide)) (by rfl) (pk_cons (pv 12) (pk_cons (pv 3) pk_nil))))) pa_nil)) (pe_callB (call_repr hg hu) (by rfl) T.repr PyProof.Rows.boot_repr (pa_cons (pv 5) pa_nil)) (nomark _))))) (pss_one (ps_ret pe_bl)) pss_nil)
      (pss_mid (ps_par (i := 6) (j := 7) rfl sc_law_right.nd rfl rfl (by decide) rfl rfl (pa_cons (pe_ix (r := rIxL K) ix_list (pv 5) pe_int (fun _ _ => rfl)) (pa_cons (pe_ix (r := rIxL K) ix_list (pv 5) pe_int (fun _ _ => rfl)) pa_nil)) (by rfl))
      (pss_mid (ps_for PassesOwn.never rfl (pi_list (pe_slice sl_list (pv 5) po_none (po_some (pe_callB (r := Ur.rLen K) Ur.len_seq (by rfl) T.len PySem.boot_len (pa_cons (pv 1) pa_nil))))) (pg_name (i := 8) sc_law_right.nd rfl (Or.inl rfl)) (pss_cons (ps_set (i := 6) sc_law_right.nd rfl (Or.inl rfl) (pe_ifExp (pt_cmpR op_lt (pe_has H_law_cmp (hr.mono (by decide)) (by rfl) (pa_cons (pv 8) (pa_cons (pv 6) pa_nil))) pe_int (nomark _)) (pv 8) (pv 6)))
      (pss_one (ps_set (i := 7) sc_law_right.nd rfl (Or.inl rfl) (pe_ifExp (pt_cmpR op_gt (pe_has H_law_cmp (hr.mono (by decide)) (by rfl) (pa_cons (pv 8) (pa_cons (pv 7) pa_nil))) pe_int (nomark _)) (pv 8) (pv 7))))))
      (pss_mid (ps_set (i := 9) sc_law_right.nd rfl (Or.inl rfl) (pe_tup (pa_cons (pe_tup (pa_cons (pe_un un_neg (pe_ix (r := rIxT K) ix_tup (pv 7) pe_int (fun _ _ => rfl))) (pa_cons (pe_ix (r := rIxT K) ix_tup (pv 7) pe_int (fun _ _ => rfl)) pa_nil))) (pa_cons (pe_tup (pa_cons (pe_un un_neg (pe_ix (r := rIxT K) ix_tup (pv 6) pe_int (fun _ _ => rfl))) (pa_cons (pe_ix (r := rIxT K) ix_tup (pv 6) pe_int (fun _ _ => rfl)) pa_nil))) pa_nil))))
      (pss_cons (ps_set (i := 10) sc_law_right.nd rfl (Or.inl rfl) (pe_lst (pa_cons (pe_has H_heights (hr.mono (by decide)) (by rfl) (pa_cons (pv 1) (pa_cons (pv 3) pa_nil))) (pa_cons (pe_hasR0 HR_heights (hr.mono (by decide)) (by rfl) (pk_cons (pv 3) (pk_cons (pv 1) pk_nil))) (pa_cons (pe_has H_heights (hr.mono (by decide)) (by rfl) (pa_cons (pv 1) (pa_cons (pe_tup (pa_cons (pe_un un_neg (pe_ix (r := rIxT K) ix_tup (pv 3) pe_int (fun _ _ => rfl))) (pa_cons (pe_un un_neg (pe_ix (r := rIxT K) ix_tup (pv 3) pe_int (fun _ _ => rfl))) pa_nil))) pa_nil))) pa_nil)))))
      (pss_mid (ps_if (pt_cmpR op_ne (pe_callB (call_repr hg hu) (by rfl) T.repr PyProof.Rows.boot_repr (pa_cons (pv 10) pa_nil)) (pe_callB (call_repr hg hu) (by rfl) T.repr PyProof.Rows.boot_repr (pa_cons (pe_lst (pa_cons (pe_tup (pa_cons (pv 6) (pa_cons (pv 7) pa_nil))) (pa_cons (pe_tup (pa_cons (pv 6) (pa_cons (pv 7) pa_nil))) (pa_cons (pv 9) pa_nil)))) pa_nil)) (nomark _)) (pss_one (ps_ret pe_bl)) pss_nil)
      (pss_mid (ps_set (i := 11) sc_law_right.nd rfl (Or.inl rfl) (pe_has H_law_hull (hr.mono (by decide)) (by rfl) (pa_cons (pe_lc (own := [("_law_spot_here", 12)]) (g := gName 12) (tt := tYes) rfl sc_law_right.nd (pi_tup (pv 1)) (blkOk_by (N := n_law_right) (sc := defScope sRight) (by decide +kernel)) (fun _ _ _ _ _ => pg_name (i := 12) sc_law_right.nd rfl (Or.inl rfl)) (fun _ _ _ _ _ => pts_nil) (fun _ _ _ _ _ => (pe_has H_law_quarter (hr.mono (by decide)) (by rfl) (pa_cons (pv 12) pa_nil)))) pa_nil)))
      (pss_one (ps_if (pt_cmpR op_ne (pe_callB (call_repr hg hu) (by rfl) T.repr PyProof.Rows.boot_repr (pa_cons (pe_has H_heights (hr.mono (by decide)) (by rfl) (pa_cons (pv 11) (pa_cons (pe_tup (pa_cons (pe_un un_neg (pe_ix (r := rIxT K) ix_tup (pv 3) pe_int (fun _ _ => rfl))) (pa_cons (pe_ix (r := rIxT K) ix_tup (pv 3) pe_int (fun _ _ => rfl)) pa_nil))) pa_nil))) pa_nil)) (pe_callB (call_repr hg hu) (by rfl) T.repr PyProof.Rows.boot_repr (pa_cons (pe_tup (pa_cons (pv 6) (pa_cons (pv 7) pa_nil))) pa_nil)) (nomark _)) (pss_one (ps_ret pe_bl)) pss_nil)))))))))))))
      (pss_one (ps_ret
            pe_bl)))), ?_⟩
    refine ⟨_, rfl, u, rfl, hu0, fun vp xs pts S H1 s1 hV => ?_⟩
    have hS0 := hV.sec.pol.scb.s0
    have hP : ∀ p ∈ pts, Pk S p := fun p hp => ⟨hV.sec.pol.scb.ok p hp, hV.sec.pol.scb.dvd p hp⟩
    have hne : pts ≠ [] := fun e => by have := hV.sec.three; rw [e] at this; simp at this
    refine ⟨3, rfl, by decide, by decide, for_range (lo := 0) (n := 3) (fun i σ H' => ∃ o2 o3 o4 o5 o6 o7 o8 o9 o10 o11 : Option V, σ = [some (.ref u), some vp, o2, o3, o4, o5, o6, o7, o8, o9, o10, o11, none] ∧ Same H1 H') ⟨_, _, _, _, _, _, _, _, _, _, rfl, Same.refl _⟩ ?_ ?_⟩
    · rintro i σ H2 hi ⟨o2, o3, o4, o5, o6, o7, o8, o9, o10, o11, rfl, s2⟩
      have hu2 := s2 _ _ (s1 _ _ hu0)
      have hV2 := hV.same s2
      refine ⟨_, rfl, u, rfl, hu2, fun va a c s' H3 s3 ta D => ?_⟩
      have hV3 := hV2.same s3
      obtain ⟨tp, rfl, hS1⟩ := hV.ref
      have hS3 := same_sqT (s2.trans s3) hS1
      refine ⟨_, rfl, tp, xs, rfl, Or.inr hS3, fun l1 hl1 => ?_⟩
      have n1 := same_new (p := l1) (o := HO.lst xs) hl1
      have g1 : (upd H3 l1 (.lst xs)) l1 = some (.lst xs) := upd_same
      have ta1 := ta.same n1
      generalize upd H3 l1 (.lst xs) = H4 at n1 g1 ta1
      have s34 := s3.trans n1
      refine ⟨_, rfl, _, rfl, u, .ref tp, xs, pts, S, rfl, s34 _ _ hu2, hV2.same s34, fun vm pm x1 y1 w1 H5 s5 tm PM => ?_⟩
      refine ⟨_, rfl, .ref tp, xs, pts, S, rfl, (hV2.same s34).same s5, fun vq pq x2 y2 w2 H6 s6 tq PQ => ⟨by show 2 ≤ sizeLine; decide, fun l2 hl2 => ?_⟩⟩
      have n2 := same_new (p := l2) (o := HO.lst [vm, vq]) hl2
      have g2 := n2 _ _ (s6 _ _ (s5 _ _ g1))
      refine ⟨_, _, _, _, rfl, rfl, g2, upd_same, ?_, fun l3 hl3 => ?_⟩
      · have := hV.al.len
        have := hV.sec.eight
        exact Nat.le_trans (by simp only [List.length_cons, List.length_nil]; omega : _ ≤ 10) (by decide)
      have n3 := same_new (p := l3) (o := HO.lst (xs ++ [vm, vq])) hl3
      have g3 : (upd (upd H6 l2 (.lst [vm, vq])) l3 (.lst (xs ++ [vm, vq]))) l3 = some (.lst (xs ++ [vm, vq])) := upd_same
      have s46 := (s5.trans s6).trans (n2.trans n3)
      have ta3 := ta1.same s46
      have tm3 := tm.same (s6.trans (n2.trans n3))
      have tq3 := tq.same (n2.trans n3)
      generalize upd (upd H6 l2 (.lst [vm, vq])) l3 (.lst (xs ++ [vm, vq])) = H7 at n3 g3 s46 ta3 tm3 tq3
      have s7 := s2.trans (s34.trans s46)
      have hV7 := hV.same s7
      have hu7 := s7 _ _ (s1 _ _ hu0)
      obtain ⟨Ps, hPs⟩ : ∃ Ps, Ps = pts ++ [pm, pq] := ⟨_, rfl⟩
      have alP : Al (Tp K H7) (xs ++ [vm, vq]) Ps := by
        rw [hPs]
        have hl := hV7.al.len
        refine ⟨by simp [hl], fun i y p hy hp => ?_⟩
        by_cases hi : i < xs.length
        · rw [List.getElem?_append_left hi] at hy
          rw [List.getElem?_append_left (by omega)] at hp
          exact hV7.al.at_ i y p hy hp
        · rw [List.getElem?_append_right (by omega)] at hy
          rw [List.getElem?_append_right (by omega), ← hl] at hp
          generalize i - xs.length = j at hy hp
          match j, hy, hp with
          | 0, hy, hp => cases hy; cases hp; exact tm3
          | 1, hy, hp => cases hy; cases hp; exact tq3
      have okP : ∀ p ∈ Ps, ∃ x y w, PtL (2 ^ 700) p x y w := fun p hp => by
        rw [hPs] at hp
        rcases List.mem_append.mp
              hp with h | h
        · obtain ⟨x, y, w', A⟩ := hV.sec.pol.scb.ok p h
          exact ⟨x, y, w', A.up (Nat.le_trans (by decide : 100 ≤ 2 ^ 7) (pup (by decide)))⟩
        · simp only [List.mem_cons, List.not_mem_nil, or_false] at h
          rcases h with rfl | rfl
          · exact ⟨_, _, _, PM⟩
          · exact ⟨_, _, _, PQ.up (pup (by decide))⟩
      have lenP : Ps.length ≤ 10 := by
        have := hV.sec.eight
        rw [hPs]
        simp only [List.length_append, List.length_cons, List.length_nil]
        omega
      have frP : ∀ z ∈ Ps.map (htF c s'), Fr (2 ^ 790) z := fun z hz => by
        obtain ⟨p, hp, rfl⟩ := List.mem_map.mp hz
        obtain ⟨x, y, w', A⟩ := okP p hp
        exact fr790 D A
      have w9 : 9 ≤ WB := Nat.le_trans (by decide : 9 ≤ 2 ^ 4) (pwb (by decide))
      have w700 : 2 ^ 700 ≤ WB := pwb (by decide)
      -- what is due
      refine ⟨fun σ' H' => ∃ (Dd : Addr) (o6 o7 o8 o9 o10 o11 : Option V), σ' = [some (.ref u), some (.ref tp), some (.int (0 + (i : Nat))), some va, some (.ref l3), some (.ref Dd), o6, o7, o8, o9, o10, o11, none] ∧ Same H7 H' ∧ Trn K H' va a c s' l3 Dd Ps, ?_, ?_⟩
      · refine lcLh (K := K) (a := l3) (xs := xs ++ [vm, vq]) (fun H' i y => Tp K H' y (htF c s' (Ps.getD i []))) (mono_tp _) (fun R r => ⟨_, rfl, r⟩) (SqL.of g3) (by rw [alP.len]; omega) (fun _ => rfl) (fun j x H8 hj s8 Q' q' => ?_) (fun Dd ys H8 hD s8 hy e1 e2 => ⟨Dd, _, _, _, _, _, _, rfl, s8, ta3.same s8, ⟨_, s8 _ _ g3, alP.tps s8⟩, ⟨ys, hy, .of_made (e1.trans alP.len) e2⟩⟩)
        obtain ⟨p, hp, hx⟩ := alP.get hj
        obtain ⟨x', y', w', A⟩ := okP p (List.mem_of_getElem? hp)
        have gp : Ps.getD j [] = p := by rw [List.getD_eq_getElem?_getD, hp]; rfl
        rw [gp] at q'
        exact ⟨_, rfl, _, rfl, va, x, a, p, c, s', x', y', w', 9, 2 ^ 700, rfl, ta3.same s8, hx.same s8, D, A, by decide, w9, w700, fun v H9 s9 tv => q' v H9 tv s9⟩
      · rintro σ' H' ⟨Dd, o6, o7, o8, o9, o10, o11, rfl, s8, t8⟩
        -- the heights told
        refine ⟨fun σ' H' => ∃ (o6 o7 o8 o9 o10 o11 : Option V), σ' = [some (.ref u), some (.ref tp), some (.int (0 + (i : Nat))), some va, some (.ref l3), some (.ref Dd), o6, o7, o8, o9, o10, o11, none] ∧ Same H7 H' ∧ Trn K H' va a c s' l3 Dd Ps, ?_, ?_⟩
        · unfold tIfS tOr tTest tOp tCB tCons
          refine lcLh (K := K) (a := l3) (xs := xs ++ [vm, vq]) (fun H' i y => Tp K H' y (htF c s' (Ps.getD i []))) (mono_tp _) (fun R r => ⟨_, rfl, r⟩) (SqL.of (s8 _ _ g3)) (by rw [alP.len]; omega) (fun _ => rfl) (fun j x H9 hj s9 Q' q' => ?_) (fun Dx ys H9 hD s9 hy e1 e2 => ?_)
          · obtain ⟨p, hp, hx⟩ := alP.get hj
            obtain ⟨x', y', w', A⟩ := okP p (List.mem_of_getElem? hp)
            have gp : Ps.getD j [] = p := by rw [List.getD_eq_getElem?_getD, hp]; rfl
            rw [gp] at q'
            exact ⟨_, rfl, _, rfl, va, x, a, p, c, s', x', y', w', 9, 2 ^ 700, rfl, t8.ta.same s9, hx.same (s8.trans s9), D, A, by decide, w9, w700, fun v H9 s9 tv => q' v H9 tv s9⟩
          · have t9 := t8.same s9
            have s79 := s8.trans s9
            unfold tNil
            dsimp only
            refine rep_big (dp_frs hy (.of_made (e1.trans alP.len) e2)) (Big.lst (big_frs frP)) ?_ (by decide) ?_
            · rw [List.length_map]
              omega
            · refine ⟨_, rfl, ?_⟩
              obtain ⟨zs, hz, alD⟩ := t9.du
              refine rep_big (dp_frs hz alD) (Big.lst (big_frs frP)) (by rw [List.length_map]; omega) (by decide) ?_
              refine ⟨rfl, _, rfl, iteNS rfl ?_⟩
              -- by name
              refine lcLh (K := K) (a := l3) (xs := xs ++ [vm, vq]) (fun H' i y => Tp K H' y (htF c s' (Ps.getD i []))) (mono_tp _) (fun R r => ⟨_, rfl, r⟩) (SqL.of (s79 _ _ g3)) (by rw [alP.len]; omega) (fun _ => rfl) (fun j x H10 hj s10 Q' q' => ?_) (fun Dx2 ys2 H10 hD2 s10 hy2 f1 f2 => ?_)
              · obtain ⟨p, hp, hx⟩ := alP.get hj
                obtain ⟨x', y', w', A⟩ := okP p (List.mem_of_getElem? hp)
                have gp : Ps.getD j [] = p := by rw [List.getD_eq_getElem?_getD, hp]; rfl
                rw [gp] at q'
                exact ⟨_, rfl, _, rfl, va, x, a, p, c, s', x', y', w', 9, 2 ^ 700, rfl, t9.ta.same s10, hx.same (s79.trans s10), D, A, by decide, w9, w700, fun v H11 s11 tv => q' v H11 tv s11⟩
              · have t10 := t9.same s10
                refine rep_big (dp_frs hy2 (.of_made (f1.trans alP.len) f2)) (Big.lst (big_frs frP)) (by rw [List.length_map]; omega) (by decide) ?_
                refine ⟨_, rfl, ?_⟩
                refine rep_big (dp_frs (s10 _ _ hz) (alD.tps s10)) (Big.lst (big_frs frP)) (by rw [List.length_map]; omega) (by decide) ?_
                exact ⟨rfl, _, rfl, iteNS rfl ⟨_, _, _, _, _, _, rfl, s79.trans s10, t10⟩⟩
        · rintro σ' H' ⟨o6, o7, o8, o9, o10, o11, rfl, s8, t8⟩
          -- the first height
          obtain ⟨p0, pr, ep⟩ : ∃ x r, pts = x :: r := by
            cases pts with
            | nil => exact (hne rfl).elim
            | cons x r =>
                  exact ⟨x, r, rfl⟩
          obtain ⟨ys, hys, alY⟩ := t8.du
          have eP : Ps.map (htF c s') = htF c s' p0 :: (pr ++ [pm, pq]).map (htF c s') := by rw [hPs, ep]; rfl
          obtain ⟨y0, yr, eY⟩ : ∃ y r, ys = y :: r := by
            have := alY.len
            rw [eP] at this
            cases ys with
            | nil => cases this
            | cons y r => exact ⟨y, r, rfl⟩
          have t0 : Tp K H' y0 (htF c s' p0) := alY.at_ 0 y0 _ (by rw [eY]; rfl) (by rw [eP]; rfl)
          have f0 : Fr (2 ^ 790) (htF c s' p0) := frP _ (by rw [eP]; exact List.mem_cons_self)
          have hy0 : H' Dd = some (.lst (y0 :: yr)) := eY ▸ hys
          refine ⟨fun σ' H' => ∃ (v6 v7 : V) (o8 o9 o10 o11 : Option V), σ' = [some (.ref u), some (.ref tp), some (.int (0 + (i : Nat))), some va, some (.ref l3), some (.ref Dd), some v6, some v7, o8, o9, o10, o11, none] ∧ Same H7 H' ∧ Trn K H' va a c s' l3 Dd Ps ∧ Tp K H' v6 (htF c s' p0) ∧ Tp K H' v7 (htF c s' p0), ?_, ?_⟩
          · exact ⟨_, rfl, Dd, _, 0, y0, rfl, rfl, SqL.of hy0, atI_nat (j := 0) rfl, _, rfl, Dd, _, 0, y0, rfl, rfl, SqL.of hy0, atI_nat (j := 0) rfl, _, _, rfl, _, _, _, _, _, _, rfl, s8, t8, t0, t0⟩
          · rintro σ' H' ⟨v6, v7, o8, o9, o10, o11, rfl, s8, t8, tl0, th0⟩
            refine ⟨fun σ' H' => ∃ (v6 v7 : V) (o8 o9 o10 o11 : Option V), σ' = [some (.ref u), some (.ref tp), some (.int (0 + (i : Nat))), some va, some (.ref l3), some (.ref Dd), some v6, some v7, o8, o9, o10, o11, none] ∧ Same H7 H' ∧ Trn K H' va a c s' l3 Dd Ps ∧ Tp K H' v6 (loOf (pts.map (htF c s'))) ∧ Tp K H' v7 (hiOf (pts.map (htF c s'))), ?_, ?_⟩
            · -- the least and the greatest
              obtain ⟨ys, hys, alY⟩ := t8.du
              have lp : (xs.length : Nat) = pts.length := hV.al.len
              refine ⟨_, rfl, _, rfl, tp, xs, rfl, Or.inr ((same_sqT (s7.trans s8) hS1)), _, rfl, Dd, ys, rfl, SqL.of hys, fun pz hpz => ?_⟩
              rw [cut_n]
              have sZ := same_new (p := pz) (o := HO.lst (ys.take xs.length)) hpz
              have alZ : Al (Tp K H') (ys.take xs.length) (pts.map (htF c s')) := by
                have h1 := alY.take xs.length
                have e1 : (Ps.map (htF c s')).take xs.length = pts.map (htF c s') := by
                  rw [hPs, List.map_append, lp, List.take_left' (List.length_map _)]
                rw [e1] at h1
                exact h1
              have frZ : ∀ z ∈ pts.map (htF c s'), Fr (2 ^ 790) z := fun z hz => frP z (by rw [hPs, List.map_append]; exact List.mem_append_left _ hz)
              have w790 : 2 ^ 790 ≤ W2 := by unfold W2; exact Nat.pow_le_pow_right (by decide) (by decide)
              refine ⟨pz, rfl, ⟨_, SqL.of upd_same⟩, for_list (K := K) (a := pz) (xs := ys.take xs.length) (fun j σ G => ∃ (vl vh : V) (o8 : Option V), σ = [some (.ref u), some (.ref tp), some (.int (0 + (i : Nat))), some va, some (.ref l3), some (.ref Dd), some vl, some vh, o8, o9, o10, o11, none] ∧ Same (upd H' pz (.lst (ys.take xs.length))) G ∧
                  Tp K G vl (((pts.map (htF c s')).take j).foldl lowF (htF c s' p0)) ∧ Tp K G vh (((pts.map (htF c s')).take j).foldl highF (htF c s' p0)) ∧ Fr (2 ^ 790) (((pts.map (htF c s')).take j).foldl lowF (htF c s' p0)) ∧ Fr (2 ^ 790) (((pts.map (htF c s')).take j).foldl highF (htF c s' p0)))
                ⟨v6, v7, _, rfl, Same.refl _, tl0.same sZ, th0.same sZ, f0, f0⟩ (fun j σ G _ ⟨_, _, _, _, sm, _⟩ => sm.seq (SqL.of upd_same)) ?_ ?_⟩
              · rintro j x σ G hj ⟨vl, vh, o8, rfl, sm, tl, th, fl, fh⟩
                obtain ⟨z, hz, tz⟩ := alZ.get hj
                have tz := tz.same (sZ.trans sm)
                have fz := frZ z (List.mem_of_getElem? hz)
                have etk : (pts.map (htF c s')).take (j + 1) = (pts.map (htF c s')).take j ++ [z] := take_next hz
                rw [etk, List.foldl_append, List.foldl_append]
                obtain ⟨tl1, el1, FL⟩ := fl
                obtain ⟨th1, eh1, FH⟩ := fh
                obtain ⟨tp1, ep1, FP⟩ := fz
                refine ⟨_, rfl, _, rfl, x, vl, _, _, tp1, ep1, tl1, el1, _, _, rfl, tz, tl, FP, FL, w790, w790, _, _, rfl, rfl, _, rfl, ?_⟩
                have fin : ∀ vl' : V, Tp K G vl' (lowF (((pts.map (htF c s')).take j).foldl lowF (htF c s' p0)) z) → ∀ vh' : V, Tp K G vh' (highF (((pts.map (htF c s')).take j).foldl highF (htF c s' p0)) z) →
                    ∃ (vl vh : V) (o8 : Option V), [some (.ref u), some (.ref tp), some (.int (0 + (i : Nat))), some va, some (.ref l3), some (.ref Dd), some vl', some vh', some x, o9, o10, o11, none] = [some (.ref u), some (.ref tp), some (.int (0 + (i : Nat))), some va, some (.ref l3), some (.ref Dd), some vl, some vh, o8, o9, o10, o11, none] ∧ Same (upd H' pz (.lst (ys.take xs.length))) G ∧
                    Tp K G vl ([z].foldl lowF (((pts.map (htF c s')).take j).foldl lowF (htF c s' p0))) ∧ Tp K G vh ([z].foldl highF (((pts.map (htF c s')).take j).foldl highF (htF c s' p0))) ∧ Fr (2 ^ 790) ([z].foldl lowF (((pts.map (htF c s')).take j).foldl lowF (htF c s' p0))) ∧ Fr (2 ^ 790) ([z].foldl highF (((pts.map (htF c s')).take j).foldl highF (htF c s' p0))) :=
                  fun vl' h1' vh' h2' => ⟨vl', vh', _, rfl, sm, h1', h2', lowF_fr ⟨_, _, FL⟩ ⟨_, _, FP⟩, highF_fr ⟨_, _, FH⟩ ⟨_, _, FP⟩⟩
                have lowY : ∀ {l a : List Int}, decide (ordL a l < 0) = true → lowF l a = a := fun e => if_pos (of_decide_eq_true e)
                have lowN : ∀ {l a : List Int}, ¬ decide (ordL a l < 0) = true → lowF l a = l := fun e => if_neg (fun z => e (decide_eq_true z))
                have highY : decide (0 < ordL z (((pts.map (htF c s')).take j).foldl highF (htF c s' p0))) = true → highF (((pts.map (htF c s')).take j).foldl highF (htF c s' p0)) z = z := fun e => if_pos ((ord_anti FP FH).mp (of_decide_eq_true e))
                have highN : ¬ decide (0 < ordL z (((pts.map (htF c s')).take j).foldl highF (htF c s' p0))) = true → highF (((pts.map (htF c s')).take j).foldl highF (htF c s' p0)) z = ((pts.map (htF c s')).take j).foldl highF (htF c s' p0) := fun e => if_neg (fun y => e (decide_eq_true ((ord_anti FP FH).mpr y)))
                refine ite2 (fun d => ?_) (fun d => ?_)
                · refine ⟨_, rfl, _, rfl, _, rfl, x, vh, _, _, tp1, ep1, th1, eh1, _, _, rfl, tz, th, FP, FH, w790, w790, _, _, rfl, rfl, _, rfl, ?_⟩
                  refine ite2 (fun d2 => ?_) (fun d2 => ?_)
                  · exact ⟨_, rfl, fin x (by rw [lowY d]; exact tz) x (by rw [highY d2]; exact tz)⟩
                  · exact ⟨_, rfl, fin x (by rw [lowY d]; exact tz) vh (by rw [highN d2]; exact th)⟩
                · refine ⟨_, rfl, _, rfl, _, rfl, x, vh, _, _, tp1, ep1, th1, eh1, _, _, rfl, tz, th, FP, FH, w790, w790, _, _, rfl, rfl, _, rfl, ?_⟩
                  refine ite2 (fun d2 => ?_) (fun d2 => ?_)
                  · exact ⟨_, rfl, fin vl (by rw [lowN d]; exact tl) x (by rw [highY d2]; exact tz)⟩
                  · exact ⟨_, rfl, fin vl (by rw [lowN d]; exact tl) vh (by rw [highN d2]; exact th)⟩
              · rintro σ G ⟨vl, vh, o8, rfl, sm, tl, th, fl, fh⟩
                rw [alZ.len, List.take_length] at tl th
                have e1 : (pts.map (htF c s')).foldl lowF (htF c s' p0) = loOf (pts.map (htF c s')) := by
                  rw [ep, List.map_cons, List.foldl_cons, low_self]
                  rfl
                have e2 : (pts.map (htF c s')).foldl highF (htF c s' p0) = hiOf (pts.map (htF c s')) := by
                  rw [ep, List.map_cons, List.foldl_cons, high_self]
                  rfl
                rw [e1] at tl
                rw [e2] at th
                exact ⟨vl, vh, _, _, _, _, rfl, s8.trans (sZ.trans sm), t8.same (sZ.trans sm), tl, th⟩
            · rintro σ' H' ⟨v6, v7, o8, o9, o10, o11, rfl, s8, t8, tlo, thi⟩
              have hfs : pts.map (htF c s') ≠ [] := by simpa using hne
              have frZ : ∀ z ∈ pts.map (htF c s'), Fr (2 ^ 790) z := fun z hz => frP z (by rw [hPs, List.map_append]; exact List.mem_append_left _ hz)
              have fLo := lo_fr hfs frZ
              have fHi := hi_fr hfs frZ
              obtain ⟨nLo, nHi⟩ := lo_neg hS0 hP hne c s'
              generalize hLo : loOf (pts.map (htF c s')) = Lo at *
              generalize hHi : hiOf (pts.map (htF c s')) = Hi at *
              refine ⟨fun σ' H' => ∃ (v6 v7 v9 : V) (o8 o10 o11 : Option V), σ' = [some (.ref u), some (.ref tp), some (.int (0 + (i : Nat))), some va, some (.ref l3), some (.ref Dd), some v6, some v7, o8, some v9, o10, o11, none] ∧ Same H7 H' ∧ Tp K H' va a ∧ Tp K H' v6 Lo ∧ Tp K H' v7 Hi ∧ Two K H' v9 (negF Hi) (negF Lo), ?_, ?_⟩
              · obtain ⟨lt, le, FL⟩ := fLo
                obtain ⟨ht', he, FH⟩ := fHi
                have eL := FL.eq
                have eH := FH.eq
                subst eL eH
                obtain ⟨aL, rfl, sL⟩ := tlo
                obtain ⟨aH, rfl, sH⟩ := thi
                refine ⟨_, rfl, aH, _, 0, _, rfl, rfl, sH, rfl, _, rfl, _, rfl, aH, _, 1, _, rfl, rfl, sH, rfl, by show 2 ≤ sizeLine; decide, fun q1 hq1 => ?_⟩
                have z1 := same_new (p := q1) (o := HO.tup [V.int (-ht'), .int he]) hq1
                refine ⟨_, rfl, aL, _, 0, _, rfl, rfl, same_sqT z1 sL, rfl, _, rfl, _, rfl, aL, _, 1, _, rfl, rfl, same_sqT z1 sL, rfl, by show 2 ≤ sizeLine; decide, fun q2 hq2 => ⟨by show 2 ≤ sizeLine; decide, fun q3 hq3 => ?_⟩⟩
                have z2 := same_new (p := q2) (o := HO.tup [V.int (-lt), .int le]) hq2
                have z3 := same_new (p := q3) (o := HO.tup [V.ref q1, .ref q2]) hq3
                have z13 := z1.trans (z2.trans z3)
                exact ⟨_, _, _, _, _, _, rfl, s8.trans z13, t8.ta.same z13, ⟨aL, rfl, same_sqT z13 sL⟩, ⟨aH, rfl, same_sqT z13 sH⟩, q3, .ref q1, .ref q2, rfl, SqT.of upd_same, ⟨q1, rfl, same_sqT (z2.trans z3) (SqT.of upd_same)⟩, ⟨q2, rfl, same_sqT z3 (SqT.of upd_same)⟩⟩
              · rintro σ' H' ⟨v6, v7, v9, o8, o10, o11, rfl, s8, ta8, tlo, thi, tb⟩
                have z8 := s7.trans s8
                -- told
                refine ⟨_, rfl, _, rfl, .ref tp, va, xs, pts, S, 9, a, c, s', rfl, hV.same z8, ta8, D, by decide, by decide, fun Ha r1 x1 y1 sa q1 tx1 ty1 => ?_⟩
                refine ⟨_, rfl, _, rfl, .ref tp, va, xs, pts, S, 9, a, c, s', rfl, hV.same (z8.trans sa), ta8.same sa, D, by decide, by decide, fun Hb r2 x2 y2 sb q2 tx2 ty2 => ?_⟩
                have sab := sa.trans sb
                obtain ⟨ra, ea, sra⟩ := ta8.same sab
                have eD := D.eq
                rw [eD] at sra
                refine ⟨_, rfl, _, ea ▸ rfl, ra, _, 0, _, rfl, rfl, sra, rfl, _, rfl, _, ea ▸ rfl, ra, _, 1, _, rfl, rfl, sra, rfl, _, rfl, by show 2 ≤ sizeLine; decide, fun pn hpn => ?_⟩
                have zn := same_new (p := pn) (o := HO.tup [V.int (-c), .int (-s')]) hpn
                refine ⟨.ref tp, .ref pn, xs, pts, S, 9, [-c, -s'], -c, -s', rfl, hV.same (z8.trans (sab.trans zn)), ⟨pn, rfl, SqT.of upd_same⟩, D.neg, by decide, by decide, fun Hc r3 x3 y3 sc q3 tx3 ty3 => ⟨by show 3 ≤ sizeLine; decide, fun ll hll => ?_⟩⟩
                rw [hLo] at tx1 tx2
                rw [hHi] at ty1 ty2
                rw [nLo] at tx3
                rw [nHi] at ty3
                have zl := same_new (p := ll) (o := HO.lst [V.ref r1, .ref r2, .ref r3]) hll
                have W1 : Two K Ha (.ref r1) Lo Hi := ⟨r1, x1, y1, rfl, q1, tx1, ty1⟩
                have W2' : Two K Hb (.ref r2) Lo Hi := ⟨r2, x2, y2, rfl, q2, tx2, ty2⟩
                have W3 : Two K Hc (.ref r3) (negF Hi) (negF Lo) := ⟨r3, x3, y3, rfl, q3, tx3, ty3⟩
                have znc := zn.trans (sc.trans zl)
                have DT : Dp K (upd Hc ll (.lst [V.ref r1, .ref r2, .ref r3])) (.ref ll) (.list [twoD Lo Hi, twoD Lo Hi, twoD (negF Hi) (negF Lo)]) :=
                  dp_list upd_same (.cons (W1.same (sb.trans znc)).dp (.cons (W2'.same znc).dp (.cons (W3.same zl).dp .nil)))
                have zz := s8.trans (sab.trans znc)
                have y8 := sab.trans znc
                have tlo9 := tlo.same y8
                have thi9 := thi.same y8
                have tb9 := tb.same y8
                have ta9 := ta8.same y8
                generalize upd Hc ll (.lst [V.ref r1, .ref r2, .ref r3]) = H9 at DT zz tlo9 thi9 tb9 ta9 ⊢
                refine ⟨fun σ' H' => ∃ (v6 v7 : V) (o8 o9 o10 o11 : Option V), σ' = [some (.ref u), some (.ref tp), some (.int (0 + (i : Nat))), some va, some (.ref l3), some (.ref Dd), some v6, some v7, o8, o9, o10, o11, none] ∧ Same H7 H' ∧ Tp K H' va a ∧ Tp K H' v6 Lo ∧ Tp K H' v7 Hi, ?_, ?_⟩
                · obtain ⟨i1, i2, i3, i4⟩ := big_facts (big_three fLo fHi fLo fHi (neg_fr fHi) (neg_fr fLo)) (by decide) (by decide)
                  refine ⟨_, rfl, ll, _, rfl, DT, i1, i2, i3, i4, ?_⟩
                  refine ⟨_, rfl, _, rfl, by show 2 ≤ sizeLine; decide, fun m1 hm1 => ⟨_, rfl, _, rfl, by show 2 ≤ sizeLine; decide, fun m2 hm2 => ⟨_, rfl, by show 3 ≤ sizeLine; decide, fun ml hml => ?_⟩⟩⟩
                  have e1 := same_new (p := m1) (o := HO.tup [v6, v7]) hm1
                  have e2 := same_new (p := m2) (o := HO.tup [v6, v7]) hm2
                  have e3 := same_new (p := ml) (o := HO.lst [V.ref m1, .ref m2, v9]) hml
                  have V1 : Two K (upd H9 m1 (.tup [v6, v7])) (.ref m1) Lo Hi := ⟨m1, v6, v7, rfl, SqT.of upd_same, tlo9.same e1, thi9.same e1⟩
                  have V2 : Two K (upd (upd H9 m1 (.tup [v6, v7])) m2 (.tup [v6, v7])) (.ref m2) Lo Hi := ⟨m2, v6, v7, rfl, SqT.of upd_same, tlo9.same (e1.trans e2), thi9.same (e1.trans e2)⟩
                  have e13 := e1.trans (e2.trans e3)
                  have DL : Dp K (upd (upd (upd H9 m1 (.tup [v6, v7])) m2 (.tup [v6, v7])) ml (.lst [V.ref m1, .ref m2, v9])) (.ref ml) (.list [twoD Lo Hi, twoD Lo Hi, twoD (negF Hi) (negF Lo)]) := dp_list upd_same (.cons (V1.same (e2.trans e3)).dp (.cons (V2.same e3).dp (.cons (tb9.same e13).dp .nil)))
                  refine ⟨ml, _, rfl, DL, i1, i2, i3, i4, rfl, ?_⟩
                  refine ne_same ?_
                  refine iteF ?_
                  exact ⟨_, _, _, _, _, _, rfl, zz.trans e13, ta9.same e13, tlo9.same e13, thi9.same e13⟩
                · rintro σ' H' ⟨v6, v7, o8, o9, o10, o11, rfl, s8, ta8, tlo, thi⟩
                  have z8 := s7.trans s8
                  -- turned
                  refine ⟨fun σ' H' => ∃ (v6 v7 : V) (rt : Addr) (ws : List V) (o8 o9 o10 : Option V), σ' = [some (.ref u), some (.ref tp), some (.int (0 + (i : Nat))), some va, some (.ref l3), some (.ref Dd), some v6, some v7, o8, o9, o10, some (.ref rt), none] ∧ Same H7 H' ∧ Tp K H' va a ∧ Tp K H' v6 Lo ∧ Tp K H' v7 Hi ∧ SecV K H' (.ref rt) ws (hullL S (pts.map qtrL)) S, ?_, ?_⟩
                  · unfold tAsg tCall tCons
                    refine lcTh (K := K) (a := tp) (xs := xs) (fun H' j y => Tp K H' y (qtrL (pts.getD j []))) (mono_tp _) (fun R r => ⟨_, rfl, r⟩) (same_sqT z8 hS1) (by rw [hV.al.len]; have := hV.sec.eight; omega) (fun _ => rfl) (fun j x H9 hj s9 Q' q' => ?_) (fun Dx ys H9 hD s9 hy e1 e2 => ?_)
                    · obtain ⟨p, hp, hx⟩ := (hV.same z8).al.get hj
                      obtain ⟨x', y', w', A⟩ := hV.sec.pol.scb.ok p (List.mem_of_getElem? hp)
                      have gp : pts.getD j [] = p := by rw [List.getD_eq_getElem?_getD, hp]; rfl
                      rw [gp] at q'
                      exact ⟨_, rfl, x, p, x', y', w', 100, rfl, hx.same s9, A, n100 (Nat.le_refl _), fun v H10 s10 tv => q' v H10 tv s10⟩
                    · have alQ : Al (Tp K H9) ys (pts.map qtrL) := .of_made (e1.trans hV.al.len) e2
                      have f1 : (ys.zip (pts.map qtrL)).map Prod.fst = ys := List.map_fst_zip (by rw [alQ.len]; omega)
                      have f2 : (ys.zip (pts.map qtrL)).map Prod.snd = pts.map qtrL := List.map_snd_zip (by rw [alQ.len]; omega)
                      have hit : ∀ m ∈ ys.zip (pts.map qtrL), Tp K H9 m.1 m.2 ∧ Pk S m.2 := fun m hm => by
                        obtain ⟨j, hj⟩ := List.mem_iff_getElem?.mp hm
                        obtain ⟨h1, h2⟩ :=
                              List.getElem?_zip_eq_some.mp hj
                        refine ⟨alQ.at_ j _ _ h1 h2, ?_⟩
                        obtain ⟨p, hp, e⟩ := List.mem_map.mp (List.mem_of_getElem? h2)
                        rw [← e]
                        exact qtr_pk (hP p hp)
                      have hz8 : (ys.zip (pts.map qtrL)).length ≤ 8 := by
                        rw [List.length_zip, List.length_map]
                        have := hV.sec.eight
                        omega
                      have h3 : 3 ≤ (hullI S (ys.zip (pts.map qtrL))).length := by
                        have e := congrArg List.length (hullI_L hS0 (its := ys.zip (pts.map qtrL)) fun m hm => (hit m hm).2)
                        rw [List.length_map, f2] at e
                        rw [e]
                        exact sec_turn hV.sec
                      refine ⟨Dx, ys.zip (pts.map qtrL), S, rfl, by rw [f1]; exact SqL.of hy, hit, by omega, hS0, fun r H10 s10 hr => ?_⟩
                      have hT := hullI_sec hS0 hV.sec.pol.scb.s1 (fun m hm => ⟨(hit m hm).1.same s10, (hit m hm).2⟩) hz8 h3 hr
                      rw [f2] at hT
                      have s910 := s9.trans s10
                      exact ⟨_, _, _, _, _, _, _, rfl, s8.trans s910, ta8.same s910, tlo.same s910, thi.same s910, hT⟩
                  · rintro σ' H' ⟨v6, v7, rt, ws, o8, o9, o10, rfl, s8, ta8, tlo, thi, hT⟩
                    have hn2 : hullL S (pts.map qtrL) ≠ [] := fun e => by have := sec_turn hV.sec; rw [e] at this; simp at this
                    obtain ⟨g1, g2⟩ := lo_turn hS0 hP hne hn2 c s'
                    obtain ⟨ra, ea, sra⟩ := ta8
                    have eD := D.eq
                    rw [eD] at sra
                    refine ⟨_, rfl, _, ea ▸ rfl, ra, _, 1, _, rfl, rfl, sra, rfl, _, rfl, _, ea ▸ rfl, ra, _, 0, _, rfl, rfl, sra, rfl, by show 2 ≤ sizeLine; decide, fun pn hpn => ?_⟩
                    have zn := same_new (p := pn) (o := HO.tup [V.int (-s'), .int c]) hpn
                    refine ⟨.ref rt, .ref pn, ws, hullL S (pts.map qtrL), S, 9, [-s', c], -s', c, rfl, hT.same zn, ⟨pn, rfl, SqT.of upd_same⟩, D.turn, by decide, by decide, fun Hc r3 x3 y3 sc q3 tx3 ty3 => ?_⟩
                    rw [g1, hLo] at tx3
                    rw [g2, hHi] at ty3
                    have W1 : Two K Hc (.ref r3) Lo Hi := ⟨r3, x3, y3, rfl, q3, tx3, ty3⟩
                    obtain ⟨i1, i2, i3, i4⟩ := big_facts (big_two fLo fHi) (by decide) (by decide)
                    refine ⟨r3, _, rfl, W1.dp, i1, i2, i3, i4, ?_⟩
                    refine ⟨_, rfl, _, rfl, by show 2 ≤ sizeLine; decide, fun m1 hm1 => ?_⟩
                    have e1 := same_new (p := m1) (o := HO.tup [v6, v7]) hm1
                    have e2 := (zn.trans sc).trans e1
                    have V1 : Two K (upd Hc m1 (.tup [v6, v7])) (.ref m1) Lo Hi := ⟨m1, v6, v7, rfl, SqT.of upd_same, tlo.same e2, thi.same e2⟩
                    refine ⟨m1, _, rfl, V1.dp, i1, i2, i3, i4, rfl, _, rfl, iteNS rfl ?_⟩
                    exact ⟨_, _, _, _, _, _, _, _, _, _, rfl, s7.trans (s8.trans e2)⟩
    · rintro σ H' ⟨o2, o3, o4, o5, o6, o7, o8, o9, o10, o11, rfl, s2⟩
      exact q _ (s1.trans s2)
end
end K8

namespace K8
open PySem L2 Ur Hull
section
variable {P' : Program} {w : World} {K :
      PySem.W.Frag} {mg : Str → Option Value} {base : Heap}
abbrev n_law : List Str := ["_law_script", "_law_lap"]
abbrev p_law : List Str := ["_law_script"]
theorem sc_law : FnScope n_law p_law (defScope sLaw) := ⟨rfl, rfl, rfl, by decide +kernel, rfl, by decide +kernel, by decide +kernel⟩
def spLaw (K : PySem.W.Frag) : Sp := fun vs H Q _ => ∃ (a : Addr) (ns : List Int), vs = [.ref a] ∧ SqL K H a (ns.map V.int) ∧ ∀ H' : Hp, Q (.bl true) H'
theorem ok_law {f : Addr} {fd : FuncData} (F : Fun K "law" "law" sLaw f fd) (T : Bl mg) (H_law_laps : Has P' w K mg base "_law_laps" p_law_laps 1 (spLaps K)) (H_law_urn : Has P' w K mg base "_law_urn" p_law_urn 1 (spUrn K))
    (HG_law_right : HasG P' w K mg base "_law_right" p_law_right 9 spRight) : FnG P' w K mg base CX0 10 f fd p_law (spLaw K) := by
  refine okG F sc_law (fun vs H Q E h => ?_) (fun cdv A outer s H vs Q E hg hr h => ?_)
  · obtain ⟨a, ns, rfl, _⟩ := h
    rfl
  · obtain ⟨a, ns, rfl, hS, q⟩ := h
    refine ⟨_, (pss_cons (ps_for PassesOwn.never rfl (pi_range1 (by rfl) T.range (pa_cons (pe_has H_law_laps (hr.mono (by decide)) (by rfl) (pa_cons (pv 0) pa_nil)) pa_nil)) (pg_name (i := 1) sc_law.nd rfl (Or.inl rfl)) (pss_one (ps_if (pt_not (pt_val (pe_hasG HG_law_right hg (hr.mono (by decide)) (by rfl) (pa_cons (pe_shut (pe_has H_law_urn (hr.mono (by decide)) (by rfl) (pa_cons (pv 0) (pa_cons (pv 1) pa_nil)))) pa_nil)))) (pss_one (ps_ret pe_bl)) pss_nil)))
      (pss_one (ps_ret
            pe_bl))), ?_⟩
    refine ⟨_, rfl, a, _, rfl, hS, fun n n0 n1 => ⟨n, rfl, by omega, by omega, for_range (lo := 0) (n := n.toNat) (fun i σ H' => ∃ v : Option V, σ = [some (.ref a), v] ∧ Same H H') ⟨none, rfl, Same.refl _⟩ ?_ ?_⟩⟩
    · rintro i σ H0 hi ⟨v, rfl, s0⟩
      refine ⟨_, rfl, _, rfl, a, ns, _, rfl, s0.seq hS, by omega, by omega, fun p x y z H2 hp s2 B hy => ⟨p, rfl, x, y, z, B, hy, p, rfl, upd_same, fun H3 s3 => ⟨true, rfl, ?_⟩⟩⟩
      exact ⟨_, rfl, s0.trans ((same_own s2 hp).trans s3)⟩
    · rintro σ H' ⟨v, rfl, s0⟩
      exact q H'
end
end K8

namespace Ur
open PySem L2
def FndR (K : PySem.W.Frag) (mg : Str → Option Value) (x : Str) (st : Stmt) (ps : List Str) : Prop :=
  ∃ f fd, Fun K x x st f fd ∧ mg x = some (.ref f) ∧ Binds K fd ps [] ∧ ∀ (s : Shared) (ws : List Value), ws.length = ps.length → BindsTo s fd ⟨[], ps.reverse.zip ws⟩ (ps.zip ws.reverse)
section
variable {P : Program} {w : World} {K : PySem.W.Frag} {mg : Str → Option Value} {base : Heap} {x : Str} {st : Stmt} {ps : List Str} {k : Nat} {sp : Sp}
theorem FndR.fnd (D : FndR K mg x st ps) : Fnd K mg x st ps := by
  obtain ⟨f, fd, F, m, b, _⟩ := D
  exact ⟨f, fd, F, m, b⟩
theorem FndR.hasR (D : FndR K mg x st ps) (h : ∀ {f fd}, Fun K x x st f fd → FnOk P w K mg base CX0 k f fd ps sp) : HasR P w K mg base x ps k sp := by
  obtain ⟨f, fd, F, m, _, b⟩ := D
  exact ⟨f, fd, h F, m, F.kp, fun s ws _ hl => b s ws hl⟩
end
section
variable {K : PySem.W.Frag} {h : Heap} {mg : Str → Option Value} {x : Str} {st : Stmt} {ps : List Str} {f : Addr} {oc kV dc pm cd ct : Value} {od an : Option Addr} {sl : Array (Option Value)}
theorem fndR_mk (X : K.In h) (G : h.Ns mainGlobals mg) (a : PySem.W.nsIn K mainGlobals x = some (some (.ref f))) (l : K.lookup f = some ⟨oc, od, .func (PySem.W.fnOf x x (defArgs st) (defBody st) (defScope st) .none kV dc pm an cd ct), sl⟩)
    (c : PySem.W.codeIn K cd x = true) (k : PySem.W.keepIn K (.ref f) = true)
    (hb : ∀ (kV doc pm : Value) (an : Option Addr) (cdv ct : Value) (us : List Value), us.length = ps.length → bindArgs (PySem.W.fnOf x x (defArgs st) (defBody st) (defScope st) .none kV doc pm an cdv ct) ⟨us, []⟩ = pure (ps.zip us))
    (hk : ∀ (kV doc pm : Value) (an : Option Addr) (cdv ct : Value) (ws : List Value), ws.length = ps.length → bindArgs (PySem.W.fnOf x x (defArgs st) (defBody st) (defScope st) .none kV doc pm an cdv ct) ⟨[], ps.reverse.zip ws⟩ = pure (ps.zip ws.reverse)) : FndR K mg x st ps := by
  have F := fun_mk l c k
  exact ⟨f, _, F, PySem.W.mg_of X G a, F.binds hb, fun s ws hl => .of_eq (hk _ _ _ _ _ _ ws hl)⟩
end
end Ur
namespace K8
open PySem L2 Ur
section
variable {P : Program} {w : World} {K :
      PySem.W.Frag} {mg : Str → Option Value} {base : Heap}
theorem all_ok {f : Addr} {fd : FuncData} (F : Fun K "law" "law" sLaw f fd) (T : Bl mg) (mG : mg "gcd" = some (.builtin "math.gcd")) (mL : mg "lcm" = some (.builtin "math.lcm"))
    (D0 : Ur.Fnd K mg "_law_pull" sPull ["_law_urn_here", "_law_many"]) (D1 : Ur.Fnd K mg "_law_urn" sUrn K8.p_law_urn) (D2 : Ur.Fnd K mg "_law_gcd" sGcd K8.p_law_gcd) (D3 : Ur.Fnd K mg "_law_thin" sThin K8.p_law_thin) (D4 : Ur.Fnd K mg "common_divisor" sCom K8.p_common_divisor) (D5 : Ur.Fnd K mg "is_whole" sWhole K8.n_is_whole) (D6 : Ur.Fnd K mg "wholes_fit" sWholes K8.p_wholes_fit) (D7 : Ur.Fnd K mg "point_fits" sPointF K8.n_value) (D8 : Ur.Fnd K mg "_law_any" sAny K8.p_law_any) (D9 : Ur.Fnd K mg "_law_num" sNum K8.p_law_num) (D10 : Ur.Fnd K mg "_law_laps" sLaps K8.p_law_laps) (D11 : Ur.Fnd K mg "sign_of" sSign K8.p_n) (D12 : Ur.Fnd K mg "ratio" sRatio K8.p_ratio) (D13 : Ur.Fnd K mg "place" sPlace K8.p_place) (D14 : Ur.Fnd K mg "inner_of" sInnerOf K8.p_po) (D15 : Ur.Fnd K mg "direction_fits" sDirF K8.n_value) (D16 : Ur.Fnd K mg "check_point" sChkP K8.n_value) (D17 : Ur.Fnd K mg "check_direction" sChkD K8.n_value) (D18 : Ur.Fnd K mg "order" sOrder K8.p_oo) (D19 : Ur.Fnd K mg "height_along" sHAlong K8.p_up) (D20 : Ur.Fnd K mg "_law_frac" sLFrac K8.p_lfrac) (D21 : Ur.Fnd K mg "_law_sign" sLSign K8.p_lnum) (D22 : Ur.Fnd K mg "_law_spot" sLSpot K8.p_lspot) (D23 : Ur.Fnd K mg "_law_way" sLWay K8.p_lway) (D24 : Ur.Fnd K mg "_law_on" sLOn K8.p_lon) (D25 : Ur.Fnd K mg "_law_cross" sLCross K8.p_lsg) (D26 : Ur.Fnd K mg "_law_by" sLBy K8.p_lby) (D27 : Ur.Fnd K mg "_law_quarter" sLQuarter K8.p_lstep) (D28 : Ur.Fnd K mg "_law_side" sLSide K8.p_lside) (D29 : Ur.Fnd K mg "_law_add" sLAdd K8.p_l12) (D30 : Ur.Fnd K mg "_law_cmp" sLCmp K8.p_l12) (D31 : Ur.Fnd K mg "_law_before" sLBefore K8.p_lway) (D32 : Ur.Fnd K mg "_law_tall" sLTall K8.p_ltall) (D33 : Ur.Fnd K mg "on_scale" sOnScale K8.p_points) (D34 : Ur.Fnd K mg "twice_triangle" sTT K8.p_tt) (D35 : Ur.Fnd K mg "_left_bends" sLB K8.p_spots) (D36 : Ur.Fnd K mg "hull_of" sHull K8.p_points) (D37 : Ur.Fnd K mg "polygon_fits" sPolyF K8.n_value) (D38 : Ur.Fnd K mg "section_fits" sSecF K8.n_value) (D39 : Ur.Fnd K mg "check_section" sChkS K8.n_value) (D40 : Ur.Fnd K mg "lowest_and_highest" sLoHi K8.p_su) (D41 : Ur.FndR K mg "height_of" sHOf K8.p_up) (D42 : Ur.FndR K mg "heights" sHts K8.p_su) (D43 : Ur.Fnd K mg "_law_sorted" sLSorted K8.p_lspots) (D44 : Ur.Fnd K mg "_law_hull" sLHull K8.p_lspots) (D45 : Ur.Fnd K mg "_law_middle" sLMiddle K8.p_lspots) (D46 : Ur.Fnd K mg "_law_mass" sLMass K8.p_lmass) (D47 : Ur.Fnd K mg "_law_aim" sLAim K8.p_lurn) (D48 : Ur.Fnd K mg "_law_plate" sLPlate K8.p_lurn) (D49 : Ur.Fnd K mg "_law_right" sRight K8.p_law_right) :
    FnG P w K mg base CX0 10 f fd p_law (spLaw K) := by
  have h__law_pull : Has P w K mg base "_law_pull" ["_law_urn_here", "_law_many"] 1 spPull := D0.has fun F => ok_pull F T
  have h__law_urn : Has P w K mg base "_law_urn" K8.p_law_urn 1 (spUrn K) := D1.has fun F => ok_urn F T
  have h__law_gcd : Has P w K mg base "_law_gcd" K8.p_law_gcd 1 spGcd := D2.has fun F => ok_gcd F T
  have h__law_thin : Has P w K mg base "_law_thin" K8.p_law_thin 2 (spThin K) := D3.has fun F => ok_thin F T h__law_gcd
  have h_common_divisor : Has P w K mg base "common_divisor" K8.p_common_divisor 1 (spCom K) := D4.has fun F => ok_com F mG
  have h_is_whole : Has P w K mg base "is_whole" K8.n_is_whole 1 (spWhole K) := D5.has fun F => ok_whole F T
  have h_wholes_fit : Has P w K mg base "wholes_fit" K8.p_wholes_fit 2 (spTold K fun xs => xs.all wh) := D6.has fun F => ok_wholes F T h_is_whole
  have h_point_fits : Has P w K mg base "point_fits" K8.n_value 3 (spTold K isPt) := D7.has fun F => ok_pointF F T h_common_divisor h_wholes_fit
  have h__law_any : Has P w K mg base "_law_any" K8.p_law_any 2 spAny := D8.has fun F => ok_any F T h__law_pull
  have h__law_num : Has P w K mg base "_law_num" K8.p_law_num 2 spNum := D9.has fun F => ok_num F h__law_pull
  have h__law_laps : Has P w K mg base "_law_laps" K8.p_law_laps 1 (spLaps K) := D10.has fun F => ok_laps F T
  have h_sign_of : Has P w K mg base "sign_of" K8.p_n 1 spSgn := D11.has fun F => ok_sign F 
  have h_ratio : Has P w K mg base "ratio" K8.p_ratio 1 (spN2 K) := D12.has fun F => ok_ratio F mG
  have h_place : Has P w K mg base "place" K8.p_place 1 (spN3 K) := D13.has fun F => ok_place F mG
  have h_inner_of : Has P w K mg base "inner_of" K8.p_po 2 (spP2 K innL) := D14.has fun F => ok_innerof F h_ratio
  have h_direction_fits : Has P w K mg base "direction_fits" K8.n_value 3 (spTold K isDr) := D15.has fun F => ok_dirF F T mG h_wholes_fit
  have h_check_point : Has P w K mg base "check_point" K8.n_value 4 (spChkP K) := D16.has fun F => ok_chkP F h_point_fits
  have h_check_direction : Has P w K mg base "check_direction" K8.n_value 4 (spChkD K) := D17.has fun F => ok_chkD F h_direction_fits
  have h_order : Has P w K mg base "order" K8.p_oo 2 (spOrd K) := D18.has fun F => ok_order F h_sign_of
  have h_height_along : Has P w K mg base "height_along" K8.p_up 3 (spUp K) := D19.has fun F => ok_halong F h_inner_of
  have h__law_frac : Has P w K mg base "_law_frac" K8.p_lfrac 3 (spN2 K) := D20.has fun F => ok_lfrac F h__law_thin
  have h__law_sign : Has P w K mg base "_law_sign" K8.p_lnum 1 spSgn := D21.has fun F => ok_lsign F T
  have h__law_spot : Has P w K mg base "_law_spot" K8.p_lspot 3 (spN3 K) := D22.has fun F => ok_lspot F h__law_thin
  have h__law_way : Has P w K mg base "_law_way" K8.p_lway 4 (spP2 K wayL) := D23.has fun F => ok_sLWay F h__law_spot
  have h__law_on : Has P w K mg base "_law_on" K8.p_lon 4 (spP2 K sumL) := D24.has fun F => ok_sLOn F h__law_spot
  have h__law_cross : Has P w K mg base "_law_cross" K8.p_lsg 4 (spP2 K crsL) := D25.has fun F => ok_sLCross F h__law_frac
  have h__law_by : Has P w K mg base "_law_by" K8.p_lby 4 (spPF K byL) := D26.has fun F => ok_lby F h__law_spot
  have h__law_quarter : Has P w K mg base "_law_quarter" K8.p_lstep 1 (spP1 K qtrL) := D27.has fun F => ok_lquarter F 
  have h__law_side : Has P w K mg base "_law_side" K8.p_lside 5 (spLSide K) := D28.has fun F => ok_lside F h__law_way h__law_cross h__law_sign
  have h__law_add : Has P w K mg base "_law_add" K8.p_l12 4 (spFF K) := D29.has fun F => ok_ladd F h__law_frac
  have h__law_cmp : Has P w K mg base "_law_cmp" K8.p_l12 1 (spOrd K) := D30.has fun F => ok_lcmp F T
  have h__law_before : Has P w K mg base "_law_before" K8.p_lway 5 (spBef K) := D31.has fun F => ok_lbef F h__law_way
  have h__law_tall : Has P w K mg base "_law_tall" K8.p_ltall 4 (spUp K) := D32.has fun F => ok_ltall F h__law_frac
  have h_on_scale : Has P w K mg base "on_scale" K8.p_points 1 (spScale K) := D33.has fun F => ok_scale F mL
  have h_twice_triangle : Has P w K mg base "twice_triangle" K8.p_tt 1 spTT := D34.has fun F => ok_tt F 
  have h__left_bends : Has P w K mg base "_left_bends" K8.p_spots 2 (spLB K) := D35.has fun F => ok_lb F T h_twice_triangle
  have h_hull_of : Has P w K mg base "hull_of" K8.p_points 3 (spHull K) := D36.has fun F => ok_hull F T h_on_scale h__left_bends h_place
  have h_polygon_fits : Has P w K mg base "polygon_fits" K8.n_value 4 (spPoly K) := D37.has fun F => ok_polyF F T h_point_fits h_hull_of
  have h_section_fits : Has P w K mg base "section_fits" K8.n_value 5 (spSec K (.bl true)) := D38.has fun F => ok_secF F T h_polygon_fits
  have h_check_section : Has P w K mg base "check_section" K8.n_value 6 (spSec K .non) := D39.has fun F => ok_chkS F h_section_fits
  have h_lowest_and_highest : Has P w K mg base "lowest_and_highest" K8.p_su 4 (spHts K) := D40.has fun F => ok_lohi F h_height_along h_order
  have h_height_of : Has P w K mg base "height_of" K8.p_up 5 (spUp K) := D41.fnd.has fun F => ok_hof F h_check_direction h_check_point h_height_along
  have r_height_of : HasR P w K mg base "height_of" K8.p_up 5 (spUp K) := D41.hasR fun F => ok_hof F h_check_direction h_check_point h_height_along
  have h_heights : Has P w K mg base "heights" K8.p_su 7 (spHts K) := D42.fnd.has fun F => ok_hts F h_check_section h_check_direction h_lowest_and_highest
  have r_heights : HasR P w K mg base "heights" K8.p_su 7 (spHts K) := D42.hasR fun F => ok_hts F h_check_section h_check_direction h_lowest_and_highest
  have h__law_sorted : Has P w K mg base "_law_sorted" K8.p_lspots 6 (spSorted K) := D43.has fun F => ok_lsorted F T h__law_before
  have h__law_hull : Has P w K mg base "_law_hull" K8.p_lspots 7 (spLHull K) := D44.has fun F => ok_lhull F T h__law_sorted h__law_side
  have h__law_middle : Has P w K mg base "_law_middle" K8.p_lspots 5 (spMid K) := D45.has fun F => ok_lmiddle F T h__law_way h__law_cross h__law_add h__law_on h__law_by h__law_frac
  have h__law_mass : Has P w K mg base "_law_mass" K8.p_lmass 6 (spMass K) := D46.has fun F => ok_lmass F h__law_pull h__law_middle h__law_spot h__law_num h__law_on
  have h__law_aim : Has P w K mg base "_law_aim" K8.p_lurn 3 (spAim K) := D47.has fun F => ok_laim F h__law_any h__law_num h__law_thin
  have h__law_plate : Has P w K mg base "_law_plate" K8.p_lurn 8 (spPlate K) := D48.has fun F => ok_lplate F T h__law_pull h__law_any h__law_num h__law_spot h__law_hull
  have h__law_right : HasG P w K mg base "_law_right" K8.p_law_right 9 spRight := D49.hasG fun F => ok_right F T h__law_plate h__law_aim h__law_mass h__law_middle h__law_tall h_height_of r_height_of h__law_cmp h_heights r_heights h__law_hull h__law_quarter
  exact ok_law F T h__law_laps h__law_urn h__law_right
end
theorem walk3 {l : PySem.W.OpenLaw} {q : Program} {loose : List Str} {XP : (Str → Option Value) → Heap → Prop} {YP : World → Heap → Prop} {d : DefRec} {K : Params → PySem.W.Frag} (hn : l.most = some 63) (hdf : d.params.defaults = [])
    (hY : ∀ (w : World) (h : Heap),
          YP w h → (K w.params).In h)
    (F : ∀ (w : World) (mg : Str → Option Value) (fa : Addr) (h : Heap),
          (K w.params).In h → h.Ns mainGlobals mg → mg d.name = some (.ref fa) →
      ∃ fd : FuncData, (∀ (s : Shared) (u : Value), BindsTo s fd ⟨[u], []⟩ [("_law_script", u)]) ∧ ∀ base : Heap, (K w.params).In base → base.Ns mainGlobals mg → FnG l.prog w (K w.params) mg base CX0 10 fa fd p_law (spLaw (K w.params))) :
    PySem.W.WalkO q loose XP YP l.row.toRowW
          d [] (fun f vs => PySem.call f vs) :=
  walkG (n := 63) (k := 10) (x := "_law_script") (sp := fun K => spLaw K) hn (by decide) hdf ⟨rfl, by decide, by decide⟩ hY F fun _ _ a ns _ hS => ⟨a, ns, rfl, hS, fun _ => rfl⟩
theorem law_mk {l : PySem.W.OpenLaw} {w : World} {K : PySem.W.Frag} {h : Heap} {mg : Str → Option Value} {fa f1 : Addr} (X : K.In h) (G : h.Ns mainGlobals mg) (hfa : mg "law" = some (.ref fa))
    {oc kV dc pm cd ct : Value} {od an : Option Addr} {sl : Array (Option Value)} (a : PySem.W.nsIn K mainGlobals "law" = some (some (.ref f1)))
    (lk : K.lookup f1 = some ⟨oc, od, .func (PySem.W.fnOf "law" "law" (defArgs sLaw) (defBody sLaw) (defScope sLaw) .none kV dc pm an cd ct), sl⟩) (c : PySem.W.codeIn K cd "law" = true) (k : PySem.W.keepIn K (.ref f1) = true)
    (ok : ∀ (base : Heap) (fd : FuncData), Fun K "law" "law" sLaw f1 fd → FnG l.prog w K mg base CX0 10 f1 fd p_law (spLaw K)) :
    ∃ fd : FuncData, (∀ (s : Shared) (u : Value), BindsTo s fd ⟨[u], []⟩ [("_law_script", u)]) ∧ ∀ base : Heap, K.In base → base.Ns mainGlobals mg → FnG l.prog w K mg base CX0 10 fa fd p_law (spLaw K) := by
  obtain rfl : fa = f1 := by
    have e := hfa.symm.trans (PySem.W.mg_of X G a)
    cases e
    rfl
  exact ⟨_, fun s u => .of_eq rfl, fun base _ _ => ok base _ (fun_mk lk c k)⟩
theorem law_all {l : PySem.W.OpenLaw} {w : World} {K : PySem.W.Frag} {h : Heap} {mg : Str → Option Value} {fa f1 : Addr} (X : K.In h) (G : h.Ns mainGlobals mg) (hfa : mg "law" = some (.ref fa)) (T : Bl mg) (mG : mg "gcd" = some (.builtin "math.gcd")) (mL : mg "lcm" = some (.builtin "math.lcm"))
    (D0 : Ur.Fnd K mg "_law_pull" sPull ["_law_urn_here", "_law_many"]) (D1 : Ur.Fnd K mg "_law_urn" sUrn K8.p_law_urn) (D2 : Ur.Fnd K mg "_law_gcd" sGcd K8.p_law_gcd) (D3 : Ur.Fnd K mg "_law_thin" sThin K8.p_law_thin) (D4 : Ur.Fnd K mg "common_divisor" sCom K8.p_common_divisor) (D5 : Ur.Fnd K mg "is_whole" sWhole K8.n_is_whole) (D6 : Ur.Fnd K mg "wholes_fit" sWholes K8.p_wholes_fit) (D7 : Ur.Fnd K mg "point_fits" sPointF K8.n_value) (D8 : Ur.Fnd K mg "_law_any" sAny K8.p_law_any) (D9 : Ur.Fnd K mg "_law_num" sNum K8.p_law_num) (D10 : Ur.Fnd K mg "_law_laps" sLaps K8.p_law_laps) (D11 : Ur.Fnd K mg "sign_of" sSign K8.p_n) (D12 : Ur.Fnd K mg "ratio" sRatio K8.p_ratio) (D13 : Ur.Fnd K mg "place" sPlace K8.p_place) (D14 : Ur.Fnd K mg "inner_of" sInnerOf K8.p_po) (D15 : Ur.Fnd K mg "direction_fits" sDirF K8.n_value) (D16 : Ur.Fnd K mg "check_point" sChkP K8.n_value) (D17 : Ur.Fnd K mg "check_direction" sChkD K8.n_value) (D18 : Ur.Fnd K mg "order" sOrder K8.p_oo) (D19 : Ur.Fnd K mg "height_along" sHAlong K8.p_up) (D20 : Ur.Fnd K mg "_law_frac" sLFrac K8.p_lfrac) (D21 : Ur.Fnd K mg "_law_sign" sLSign K8.p_lnum) (D22 : Ur.Fnd K mg "_law_spot" sLSpot K8.p_lspot) (D23 : Ur.Fnd K mg "_law_way" sLWay K8.p_lway) (D24 : Ur.Fnd K mg "_law_on" sLOn K8.p_lon) (D25 : Ur.Fnd K mg "_law_cross" sLCross K8.p_lsg) (D26 : Ur.Fnd K mg "_law_by" sLBy K8.p_lby) (D27 : Ur.Fnd K mg "_law_quarter" sLQuarter K8.p_lstep) (D28 : Ur.Fnd K mg "_law_side" sLSide K8.p_lside) (D29 : Ur.Fnd K mg "_law_add" sLAdd K8.p_l12) (D30 : Ur.Fnd K mg "_law_cmp" sLCmp K8.p_l12) (D31 : Ur.Fnd K mg "_law_before" sLBefore K8.p_lway) (D32 : Ur.Fnd K mg "_law_tall" sLTall K8.p_ltall) (D33 : Ur.Fnd K mg "on_scale" sOnScale K8.p_points) (D34 : Ur.Fnd K mg "twice_triangle" sTT K8.p_tt) (D35 : Ur.Fnd K mg "_left_bends" sLB K8.p_spots) (D36 : Ur.Fnd K mg "hull_of" sHull K8.p_points) (D37 : Ur.Fnd K mg "polygon_fits" sPolyF K8.n_value) (D38 : Ur.Fnd K mg "section_fits" sSecF K8.n_value) (D39 : Ur.Fnd K mg "check_section" sChkS K8.n_value) (D40 : Ur.Fnd K mg "lowest_and_highest" sLoHi K8.p_su) (D41 : Ur.FndR K mg "height_of" sHOf K8.p_up) (D42 : Ur.FndR K mg "heights" sHts K8.p_su) (D43 : Ur.Fnd K mg "_law_sorted" sLSorted K8.p_lspots) (D44 : Ur.Fnd K mg "_law_hull" sLHull K8.p_lspots) (D45 : Ur.Fnd K mg "_law_middle" sLMiddle K8.p_lspots) (D46 : Ur.Fnd K mg "_law_mass" sLMass K8.p_lmass) (D47 : Ur.Fnd K mg "_law_aim" sLAim K8.p_lurn) (D48 : Ur.Fnd K mg "_law_plate" sLPlate K8.p_lurn) (D49 : Ur.Fnd K mg "_law_right" sRight K8.p_law_right)
    {oc kV dc pm cd ct : Value} {od an : Option Addr} {sl : Array (Option Value)} (a : PySem.W.nsIn K mainGlobals "law" = some (some (.ref f1)))
    (lk : K.lookup f1 = some ⟨oc, od, .func (PySem.W.fnOf "law" "law" (defArgs sLaw) (defBody sLaw) (defScope sLaw) .none kV dc pm an cd ct), sl⟩) (c : PySem.W.codeIn K cd "law" = true) (k : PySem.W.keepIn K (.ref f1) = true) :
    ∃ fd : FuncData, (∀ (s : Shared) (u : Value), BindsTo s fd ⟨[u], []⟩ [("_law_script", u)]) ∧ ∀ base : Heap, K.In base → base.Ns mainGlobals mg → FnG l.prog w K mg base CX0 10 fa fd p_law (spLaw K) :=
  law_mk X G hfa a lk c k fun base fd F => all_ok F T mG mL D0 D1 D2 D3 D4 D5 D6 D7 D8 D9 D10 D11 D12 D13 D14 D15 D16 D17 D18 D19 D20 D21 D22 D23 D24 D25 D26 D27 D28 D29 D30 D31 D32 D33 D34 D35 D36 D37 D38 D39 D40 D41 D42 D43 D44 D45 D46 D47 D48 D49
end K8

open PySem PySem.W
      PyProof.Rows
set_option
      maxRecDepth 100000 in
set_option maxHeartbeats 0 in
theorem PySem.Challenge.cw_hullrests_k12_heights_along_any_up_holds : PySem.Challenge.rw_hullrests_k12_heights_along_any_up.Holds := by
  w_on; o_law; k_head;
        (case hw => w_witness2)
  k_fill
  refine K8.walk3 (l := PySem.Challenge.rw_hullrests_k12_heights_along_any_up) rfl rfl (fun w h Y => PySem.W.kIn_of Y) ?F
  case F =>
    intro w mg fa h KX G hmg
    have T : K8.Bl mg := by
      refine' ⟨PySem.W.mg_none_of KX G ?_, PySem.W.mg_none_of KX G ?_, PySem.W.mg_none_of KX G ?_, PySem.W.mg_none_of KX G ?_, PySem.W.mg_none_of KX G ?_, PySem.W.mg_none_of KX G ?_, PySem.W.mg_none_of KX G ?_, PySem.W.mg_none_of KX G ?_, PySem.W.mg_none_of KX G ?_, PySem.W.mg_none_of KX G ?_, PySem.W.mg_none_of KX G ?_, PySem.W.mg_none_of KX G ?_, PySem.W.mg_none_of KX G ?_, PySem.W.mg_none_of KX G ?_, PySem.W.mg_none_of KX G ?_⟩ <;> k_is
    have mG : mg "gcd" = some (.builtin "math.gcd") := by
      refine' PySem.W.mg_of KX G ?_
      k_is
    have mL : mg "lcm" = some (.builtin "math.lcm") := by
      refine' PySem.W.mg_of KX G ?_
      k_is
    refine' K8.law_all KX G hmg T mG mL
      (Ur.fnd_mk (x := "_law_pull") (st := K8.sPull) (ps := ["_law_urn_here", "_law_many"]) KX G ?a0 ?l0 ?c0 ?k0 (fun _ _ _ _ _ _ us hl => match us, hl with | [_, _], _ => rfl))
      (Ur.fnd_mk (x := "_law_urn") (st := K8.sUrn) (ps := K8.p_law_urn) KX G ?a1 ?l1 ?c1 ?k1 (fun _ _ _ _ _ _ us hl => match us, hl with | [_, _], _ => rfl))
      (Ur.fnd_mk (x := "_law_gcd") (st := K8.sGcd) (ps := K8.p_law_gcd) KX G ?a2 ?l2 ?c2 ?k2 (fun _ _ _ _ _ _ us hl => match us, hl with | [_, _], _ => rfl))
      (Ur.fnd_mk (x := "_law_thin") (st := K8.sThin) (ps := K8.p_law_thin) KX G ?a3 ?l3 ?c3 ?k3 (fun _ _ _ _ _ _ us hl => match us, hl with | [_], _ => rfl))
      (Ur.fnd_mk (x := "common_divisor") (st := K8.sCom) (ps := K8.p_common_divisor) KX G ?a4 ?l4 ?c4 ?k4 (fun _ _ _ _ _ _ us hl => match us, hl with | [_], _ => rfl))
      (Ur.fnd_mk (x := "is_whole") (st := K8.sWhole) (ps := K8.n_is_whole) KX G ?a5 ?l5 ?c5 ?k5 (fun _ _ _ _ _ _ us hl => match us, hl with | [_], _ => rfl))
      (Ur.fnd_mk (x := "wholes_fit") (st := K8.sWholes) (ps := K8.p_wholes_fit) KX G ?a6 ?l6 ?c6 ?k6 (fun _ _ _ _ _ _ us hl => match us, hl with | [_], _ => rfl))
      (Ur.fnd_mk (x := "point_fits") (st := K8.sPointF) (ps := K8.n_value) KX G ?a7 ?l7 ?c7 ?k7 (fun _ _ _ _ _ _ us hl => match us, hl with | [_], _ => rfl))
      (Ur.fnd_mk (x := "_law_any") (st := K8.sAny) (ps := K8.p_law_any) KX G ?a8 ?l8 ?c8 ?k8 (fun _ _ _ _ _ _ us hl => match us, hl with | [_, _], _ => rfl))
      (Ur.fnd_mk (x := "_law_num") (st := K8.sNum) (ps := K8.p_law_num) KX G ?a9 ?l9 ?c9 ?k9 (fun _ _ _ _ _ _ us hl => match us, hl with | [_, _], _ => rfl))
      (Ur.fnd_mk (x := "_law_laps") (st := K8.sLaps) (ps := K8.p_law_laps) KX G ?a10 ?l10 ?c10 ?k10 (fun _ _ _ _ _ _ us hl => match us, hl with | [_], _ => rfl))
      (Ur.fnd_mk (x := "sign_of") (st := K8.sSign) (ps := K8.p_n) KX G ?a11 ?l11 ?c11 ?k11 (fun _ _ _ _ _ _ us hl => match us, hl with | [_], _ => rfl))
      (Ur.fnd_mk (x := "ratio") (st := K8.sRatio) (ps := K8.p_ratio) KX G ?a12 ?l12 ?c12 ?k12 (fun _ _ _ _ _ _ us hl => match us, hl with | [_, _], _ => rfl))
      (Ur.fnd_mk (x := "place") (st := K8.sPlace) (ps := K8.p_place) KX G ?a13 ?l13 ?c13 ?k13 (fun _ _ _ _ _ _ us hl => match us, hl with | [_, _, _], _ => rfl))
      (Ur.fnd_mk (x := "inner_of") (st := K8.sInnerOf) (ps := K8.p_po) KX G ?a14 ?l14 ?c14 ?k14 (fun _ _ _ _ _ _ us hl => match us, hl with | [_, _], _ => rfl))
      (Ur.fnd_mk (x := "direction_fits") (st := K8.sDirF) (ps := K8.n_value) KX G ?a15 ?l15 ?c15 ?k15 (fun _ _ _ _ _ _ us hl => match us, hl with | [_], _ => rfl))
      (Ur.fnd_mk (x := "check_point") (st := K8.sChkP) (ps := K8.n_value) KX G ?a16 ?l16 ?c16 ?k16 (fun _ _ _ _ _ _ us hl => match us, hl with | [_], _ => rfl))
      (Ur.fnd_mk (x := "check_direction") (st := K8.sChkD) (ps := K8.n_value) KX G ?a17 ?l17 ?c17 ?k17 (fun _ _ _ _ _ _ us hl => match us, hl with | [_], _ => rfl))
      (Ur.fnd_mk (x := "order") (st := K8.sOrder) (ps := K8.p_oo) KX G ?a18 ?l18 ?c18 ?k18 (fun _ _ _ _ _ _ us hl => match us, hl with | [_, _], _ => rfl))
      (Ur.fnd_mk (x := "height_along") (st := K8.sHAlong) (ps := K8.p_up) KX G ?a19 ?l19 ?c19 ?k19 (fun _ _ _ _ _ _ us hl => match us, hl with | [_, _], _ => rfl))
      (Ur.fnd_mk (x := "_law_frac") (st := K8.sLFrac) (ps := K8.p_lfrac) KX G ?a20 ?l20 ?c20 ?k20 (fun _ _ _ _ _ _ us hl => match us, hl with | [_, _], _ => rfl))
      (Ur.fnd_mk (x := "_law_sign") (st := K8.sLSign) (ps := K8.p_lnum) KX G ?a21 ?l21 ?c21 ?k21 (fun _ _ _ _ _ _ us hl => match us, hl with | [_], _ => rfl))
      (Ur.fnd_mk (x := "_law_spot") (st := K8.sLSpot) (ps := K8.p_lspot) KX G ?a22 ?l22 ?c22 ?k22 (fun _ _ _ _ _ _ us hl => match us, hl with | [_, _, _], _ => rfl))
      (Ur.fnd_mk (x := "_law_way") (st := K8.sLWay) (ps := K8.p_lway) KX G ?a23 ?l23 ?c23 ?k23 (fun _ _ _ _ _ _ us hl => match us, hl with | [_, _], _ => rfl))
      (Ur.fnd_mk (x := "_law_on") (st := K8.sLOn) (ps := K8.p_lon) KX G ?a24 ?l24 ?c24 ?k24 (fun _ _ _ _ _ _ us hl => match us, hl with | [_, _], _ => rfl))
      (Ur.fnd_mk (x := "_law_cross") (st := K8.sLCross) (ps := K8.p_lsg) KX G ?a25 ?l25 ?c25 ?k25 (fun _ _ _ _ _ _ us hl => match us, hl with | [_, _], _ => rfl))
      (Ur.fnd_mk (x := "_law_by") (st := K8.sLBy) (ps := K8.p_lby) KX G ?a26 ?l26 ?c26 ?k26 (fun _ _ _ _ _ _ us hl => match us, hl with | [_, _], _ => rfl))
      (Ur.fnd_mk (x := "_law_quarter") (st := K8.sLQuarter) (ps := K8.p_lstep) KX G ?a27 ?l27 ?c27 ?k27 (fun _ _ _ _ _ _ us hl => match us, hl with | [_], _ => rfl))
      (Ur.fnd_mk (x := "_law_side") (st := K8.sLSide) (ps := K8.p_lside) KX G ?a28 ?l28 ?c28 ?k28 (fun _ _ _ _ _ _ us hl => match us, hl with | [_, _, _], _ => rfl))
      (Ur.fnd_mk (x := "_law_add") (st := K8.sLAdd) (ps := K8.p_l12) KX G ?a29 ?l29 ?c29 ?k29 (fun _ _ _ _ _ _ us hl => match us, hl with | [_, _], _ => rfl))
      (Ur.fnd_mk (x := "_law_cmp") (st := K8.sLCmp) (ps := K8.p_l12) KX G ?a30 ?l30 ?c30 ?k30 (fun _ _ _ _ _ _ us hl => match us, hl with | [_, _], _ => rfl))
      (Ur.fnd_mk (x := "_law_before") (st := K8.sLBefore) (ps := K8.p_lway) KX G ?a31 ?l31 ?c31 ?k31 (fun _ _ _ _ _ _ us hl => match us, hl with | [_, _], _ => rfl))
      (Ur.fnd_mk (x := "_law_tall") (st := K8.sLTall) (ps := K8.p_ltall) KX G ?a32 ?l32 ?c32 ?k32 (fun _ _ _ _ _ _ us hl => match us, hl with | [_, _], _ => rfl))
      (Ur.fnd_mk (x := "on_scale") (st := K8.sOnScale) (ps := K8.p_points) KX G ?a33 ?l33 ?c33 ?k33 (fun _ _ _ _ _ _ us hl => match us, hl with | [_], _ => rfl))
      (Ur.fnd_mk (x := "twice_triangle") (st := K8.sTT) (ps := K8.p_tt) KX G ?a34 ?l34 ?c34 ?k34 (fun _ _ _ _ _ _ us hl => match us, hl with | [_, _, _], _ => rfl))
      (Ur.fnd_mk (x := "_left_bends") (st := K8.sLB) (ps := K8.p_spots) KX G ?a35 ?l35 ?c35 ?k35 (fun _ _ _ _ _ _ us hl => match us, hl with | [_], _ => rfl))
      (Ur.fnd_mk (x := "hull_of") (st := K8.sHull) (ps := K8.p_points) KX G ?a36 ?l36 ?c36 ?k36 (fun _ _ _ _ _ _ us hl => match us, hl with | [_], _ => rfl))
      (Ur.fnd_mk (x := "polygon_fits") (st := K8.sPolyF) (ps := K8.n_value) KX G ?a37 ?l37 ?c37 ?k37 (fun _ _ _ _ _ _ us hl => match us, hl with | [_], _ => rfl))
      (Ur.fnd_mk (x := "section_fits") (st := K8.sSecF) (ps := K8.n_value) KX G ?a38 ?l38 ?c38 ?k38 (fun _ _ _ _ _ _ us hl => match us, hl with | [_], _ => rfl))
      (Ur.fnd_mk (x := "check_section") (st := K8.sChkS) (ps := K8.n_value) KX G ?a39 ?l39 ?c39 ?k39 (fun _ _ _ _ _ _ us hl => match us, hl with | [_], _ => rfl))
      (Ur.fnd_mk (x := "lowest_and_highest") (st := K8.sLoHi) (ps := K8.p_su) KX G ?a40 ?l40 ?c40 ?k40 (fun _ _ _ _ _ _ us hl => match us, hl with | [_, _], _ => rfl))
      (Ur.fndR_mk (x := "height_of") (st := K8.sHOf) (ps := K8.p_up) KX G ?a41 ?l41 ?c41 ?k41 (fun _ _ _ _ _ _ us hl => match us, hl with | [_, _], _ => rfl) (fun _ _ _ _ _ _ ws hl => match ws, hl with | [_, _], _ => rfl))
      (Ur.fndR_mk (x := "heights") (st := K8.sHts) (ps := K8.p_su) KX G ?a42 ?l42 ?c42 ?k42 (fun _ _ _ _ _ _ us hl => match us, hl with | [_, _], _ => rfl) (fun _ _ _ _ _ _ ws hl => match ws, hl with | [_, _], _ => rfl))
      (Ur.fnd_mk (x := "_law_sorted") (st := K8.sLSorted) (ps := K8.p_lspots) KX G ?a43 ?l43 ?c43 ?k43 (fun _ _ _ _ _ _ us hl => match us, hl with | [_], _ => rfl))
      (Ur.fnd_mk (x := "_law_hull") (st := K8.sLHull) (ps := K8.p_lspots) KX G ?a44 ?l44 ?c44 ?k44 (fun _ _ _ _ _ _ us hl => match us, hl with | [_], _ => rfl))
      (Ur.fnd_mk (x := "_law_middle") (st := K8.sLMiddle) (ps := K8.p_lspots) KX G ?a45 ?l45 ?c45 ?k45 (fun _ _ _ _ _ _ us hl => match us, hl with | [_], _ => rfl))
      (Ur.fnd_mk (x := "_law_mass") (st := K8.sLMass) (ps := K8.p_lmass) KX G ?a46 ?l46 ?c46 ?k46 (fun _ _ _ _ _ _ us hl => match us, hl with | [_, _], _ => rfl))
      (Ur.fnd_mk (x := "_law_aim") (st := K8.sLAim) (ps := K8.p_lurn) KX G ?a47 ?l47 ?c47 ?k47 (fun _ _ _ _ _ _ us hl => match us, hl with | [_], _ => rfl))
      (Ur.fnd_mk (x := "_law_plate") (st := K8.sLPlate) (ps := K8.p_lurn) KX G ?a48 ?l48 ?c48 ?k48 (fun _ _ _ _ _ _ us hl => match us, hl with | [_], _ => rfl))
      (Ur.fnd_mk (x := "_law_right") (st := K8.sRight) (ps := K8.p_law_right) KX G ?a49 ?l49 ?c49 ?k49 (fun _ _ _ _ _ _ us hl => match us, hl with | [_], _ => rfl))
      ?a ?l ?c ?k
    (case a0 => k_is); (case l0 => k_is); (case c0 => k_is); (case k0 => k_is)
    (case a1 => k_is); (case l1 => k_is);
          (case c1 => k_is); (case k1 => k_is)
    (case a2 => k_is); (case l2 => k_is);
          (case c2 => k_is); (case k2 => k_is)
    (case a3 => k_is); (case l3 => k_is);
          (case c3 => k_is); (case k3 => k_is)
    (case a4 => k_is); (case l4 => k_is);
          (case c4 => k_is); (case k4 => k_is)
    (case a5 => k_is); (case l5 => k_is); (case c5 => k_is); (case k5 => k_is)
    (case a6 => k_is); (case l6 => k_is); (case c6 => k_is); (case k6 => k_is)
    (case a7 => k_is); (case l7 => k_is); (case c7 => k_is); (case k7 => k_is)
    (case a8 => k_is); (case l8 => k_is); (case c8 => k_is); (case k8 => k_is)
    (case a9 => k_is); (case l9 => k_is); (case c9 => k_is); (case k9 => k_is)
    (case a10 => k_is); (case l10 => k_is); (case c10 => k_is); (case k10 => k_is)
    (case a11 => k_is); (case l11 => k_is); (case c11 => k_is); (case k11 => k_is)
    (case a12 => k_is); (case l12 => k_is); (case c12 => k_is); (case k12 => k_is)
    (case a13 => k_is); (case l13 => k_is); (case c13 => k_is); (case k13 => k_is)
    (case a14 => k_is); (case l14 => k_is); (case c14 => k_is); (case k14 => k_is)
    (case a15 => k_is); (case l15 => k_is); (case c15 => k_is); (case k15 => k_is)
    (case a16 => k_is); (case l16 => k_is); (case c16 => k_is); (case k16 => k_is)
    (case a17 => k_is); (case l17 => k_is); (case c17 => k_is); (case k17 => k_is)
    (case a18 => k_is); (case l18 => k_is); (case c18 => k_is); (case k18 => k_is)
    (case a19 => k_is); (case l19 => k_is); (case c19 => k_is); (case k19 => k_is)
    (case a20 => k_is); (case l20 => k_is); (case c20 => k_is); (case k20 => k_is)
    (case a21 => k_is); (case l21 => k_is); (case c21 => k_is); (case k21 => k_is)
    (case a22 => k_is); (case l22 => k_is); (case c22 => k_is); (case k22 => k_is)
    (case a23 => k_is); (case l23 => k_is); (case c23 => k_is); (case k23 => k_is)
    (case a24 => k_is); (case l24 => k_is); (case c24 => k_is); (case k24 => k_is)
    (case a25 => k_is); (case l25 => k_is); (case c25 => k_is); (case k25 => k_is)
    (case a26 => k_is); (case l26 => k_is); (case c26 => k_is); (case k26 => k_is)
    (case a27 => k_is); (case l27 => k_is); (case c27 => k_is); (case k27 => k_is)
    (case a28 => k_is); (case l28 => k_is); (case c28 => k_is); (case k28 => k_is)
    (case a29 => k_is); (case l29 => k_is); (case c29 => k_is); (case k29 => k_is)
    (case a30 => k_is); (case l30 => k_is); (case c30 => k_is); (case k30 => k_is)
    (case a31 => k_is); (case l31 => k_is); (case c31 => k_is); (case k31 => k_is)
    (case a32 => k_is); (case l32 => k_is); (case c32 => k_is); (case k32 => k_is)
    (case a33 => k_is); (case l33 => k_is); (case c33 => k_is); (case k33 => k_is)
    (case a34 => k_is); (case l34 => k_is); (case c34 => k_is); (case k34 => k_is)
    (case a35 => k_is); (case l35 => k_is); (case c35 => k_is); (case k35 => k_is)
    (case a36 => k_is); (case l36 => k_is); (case c36 => k_is); (case k36 => k_is)
    (case a37 => k_is); (case l37 => k_is); (case c37 => k_is); (case k37 => k_is)
    (case a38 => k_is); (case l38 => k_is); (case c38 => k_is); (case k38 => k_is)
    (case a39 => k_is); (case l39 => k_is); (case c39 => k_is); (case k39 => k_is)
    (case a40 => k_is); (case l40 => k_is); (case c40 => k_is); (case k40 => k_is)
    (case a41 => k_is); (case l41 => k_is); (case c41 => k_is); (case k41 => k_is)
    (case a42 => k_is); (case l42 => k_is); (case c42 => k_is); (case k42 => k_is)
    (case a43 => k_is); (case l43 => k_is); (case c43 => k_is); (case k43 => k_is)
    (case a44 => k_is); (case l44 => k_is); (case c44 => k_is); (case k44 => k_is)
    (case a45 => k_is); (case l45 => k_is); (case c45 => k_is); (case k45 => k_is)
    (case a46 => k_is); (case l46 => k_is); (case c46 => k_is); (case k46 => k_is)
    (case a47 => k_is); (case l47 => k_is); (case c47 => k_is); (case k47 => k_is)
    (case a48 => k_is); (case l48 => k_is); (case c48 => k_is); (case k48 => k_is)
    (case a49 => k_is); (case l49 => k_is); (case c49 => k_is); (case k49 => k_is)
    (case a => k_is); (case l => k_is); (case c => k_is); (case k => k_is)
#print axioms PySem.Challenge.cw_hullrests_k12_heights_along_any_up_holds

