import PyProof.Rows.All
import Wide.All
import OpenK.AllK
import Wide.FinOn
import PySem.Challenge.RW_lanerules_k52_favoured_lanes
import HandS.ForMost
import HandS.Wide
import HandS.Conv
import HandS.More
import HandS.Style
import HandS.TupMul
import HandS.TupAny
import HandS.IsInst
import HandS.EndBits
import HandS.Evl
import KE.GoesMore
import KE.GoesEnum
import HandS.SetFor
import HandS.Strs
import HandS.DictComp
import HandS.Walk
import HandS.ExcInit
import HandS.ExcField
import HandS.ExcIs
import HandS.ExcOwn
import KE.KExcIs
import HandS.ExcValue
import HandS.Star
import HandS.WordsExc
import HandS.Deep
import KE.KIsAll
import HandS.GenList
import HandS.Text
import PyProof.Rows.StrStep
import PyProof.Rows.RegReprOcc
import PyProof.CollectStr
import PyProof.Rows.SortShellAny
import HandS.SlotsOwn
import HandS.NamedTupGet
import KE.KCallOwn
import HandS.Property
import HandS.Codes
import HandS.HotCalls
import HandS.SortKw
import HandS.DictEq
import PyProof.EqKinds
set_option Elab.async false
set_option linter.all false
set_option maxRecDepth 100000
set_option maxHeartbeats 4000000
set_option synthInstance.maxHeartbeats 1000000
set_option synthInstance.maxSize 100000
namespace Lr
open PySem L2
abbrev Ex := Evl.Ex
/-! ### the drawer of numbers: its dict and its list of great numbers are known only by what always holds of them -/
def canKvs (d a : Addr) (t : Int) : List (Key × V) := [(Sum.inr "deep", .ref d), (Sum.inr "all", .ref a), (Sum.inr "times", .int t)]
def DeepOk (ds : List Int) : Prop := (∀ x ∈ ds, 0 ≤ x) ∧ ds.length ≤ 63
section
variable (P : Program) (w : World)
abbrev H0 : Hp := fun _ => none
def phiC (c d a : Addr) : Heap → Prop := fun h => ∃ t : Int, ObjOk P w H0 h c (.dK (canKvs d a t))
def phiD (d : Addr) : Heap → Prop := fun h => ∃ ds : List Int, DeepOk ds ∧ ObjOk P w H0 h d (.lst (ds.map V.int))
/-- the drawer stands at c -/
def Can (H : Hp) (c : Addr) : Prop := ∃ d a cs, H c = some (.ext (phiC P w c d a)) ∧ H d = some (.ext (phiD P w d)) ∧ H a = some (.lst (cs.map V.int)) ∧ cs ≠ [] ∧ cs.length ≤ 64 ∧ d ≠ c
end
section
variable {P : Program} {w : World} {H H' : Hp} {c d a : Addr}
theorem Can.mono (h : Can P w H c) (e : Ex H H') : Can P w H' c := by
  obtain ⟨d, a, cs, h1, h2, h3, h4⟩ := h
  exact ⟨d, a, cs, e _ _ h1, e _ _ h2, e _ _ h3, h4⟩
theorem stayC {h1 h2 : Heap} (x : phiC P w c d a h1) (k : ∀ o, h1.get? c = some o → h2.get? c = some o) : phiC P w c d a h2 := by
  obtain ⟨t, x⟩ := x
  refine ⟨t, ObjOk.stay x (fun b u hb e => ?_) (fun _ q => nomatch q) fun _ _ q => nomatch q⟩
  rcases hb with rfl | q
  · exact k u e
  · cases q
theorem stayD {h1 h2 : Heap} (x : phiD P w d h1) (k : ∀ o, h1.get? d = some o → h2.get? d = some o) : phiD P w d h2 := by
  obtain ⟨t, g, x⟩ := x
  refine ⟨t, g, ObjOk.stay x (fun b u hb e => ?_) (fun _ q => nomatch q) fun _ _ q => nomatch q⟩
  rcases hb with rfl | q
  · exact k u e
  · cases q
theorem there_dK {h : Heap} {kvs : List (Key × V)} (x : ObjOk P w H h c (.dK kvs)) : ∃ o, h.get? c = some o := by
  obtain ⟨_, _, _, _, o, _, _, e, _⟩ := x
  exact ⟨o, e⟩
theorem there_lst {h : Heap} {xs : List V} (x : ObjOk P w H h c (.lst xs)) : ∃ o, h.get? c = some o := by
  obtain ⟨_, _, _, _, e⟩ := x
  exact ⟨_, e⟩
end
section
variable {X : Cx} {pins : List (Addr × Obj)} {σ : St} {H : Hp} {s : Shared} {c d a : Addr}
/-- another description of the same object -/
theorem reword {o o' : HO} (I : Inv X pins σ H s) (h : H c = some o) (mu : Mut (some o)) (new : ObjOk X.prog X.w (upd H c o') s.heap c o') (there : ∃ u, s.heap.get? c = some u) : Inv X pins σ (upd H c o') s :=
  I.write (x := c) (e := c) (t' := s.toks) (h' := s.heap) (by rw [h]; exact mu) (.inl rfl) (fun _ _ _ q => q) there new
theorem opened (I : Inv X pins σ H s) (h1 : H c = some (.ext (phiC X.prog X.w c d a))) (h2 : H d = some (.ext (phiD X.prog X.w d))) (hcd : d ≠ c) :
    ∃ t ds, DeepOk ds ∧ Inv X pins σ (upd (upd H c (.dK (canKvs d a t))) d (.lst (ds.map V.int))) s := by
  obtain ⟨⟨t, x1⟩, th1, _⟩ := I.hok c _ h1
  obtain ⟨⟨ds, g, x2⟩, th2, _⟩ := I.hok d _ h2
  have I1 := reword (o' := .dK (canKvs d a t)) I h1 trivial x1 th1
  have h3 : upd H c (.dK (canKvs d a t)) d = some (.ext (phiD X.prog X.w d)) := by rw [upd_ne hcd]; exact h2
  exact ⟨t, ds, g, reword (o' := .lst (ds.map V.int)) I1 h3 trivial x2 th2⟩
theorem closed {t : Int} {ds : List Int} (I : Inv X pins σ H s) (h1 : H c = some (.dK (canKvs d a t))) (h2 : H d = some (.lst (ds.map V.int))) (g : DeepOk ds) (hcd : d ≠ c) :
    Inv X pins σ (upd (upd H c (.ext (phiC X.prog X.w c d a))) d (.ext (phiD X.prog X.w d))) s := by
  have x1 : ObjOk X.prog X.w H0 s.heap c (.dK (canKvs d a t)) := I.hok c _ h1
  have x2 : ObjOk X.prog X.w H0 s.heap d (.lst (ds.map V.int)) := I.hok d _ h2
  have I1 := reword (o' := .ext (phiC X.prog X.w c d a)) I h1 trivial ⟨⟨t, x1⟩, there_dK x1, fun _ _ p k => stayC p k⟩ (there_dK x1)
  have h3 : upd H c (.ext (phiC X.prog X.w c d a)) d = some (.lst (ds.map V.int)) := by rw [upd_ne hcd]; exact h2
  exact reword (o' := .ext (phiD X.prog X.w d)) I1 h3 trivial ⟨⟨ds, g, x2⟩, there_lst x2, fun _ _ p k => stayD p k⟩ (there_lst x2)
end
/-- a body that opens the drawer, and closes it ahead of each return -/
def tDrawer (P : Program) (w : World) (t : TS) : TS := fun D σ H => ∃ c d a, H c = some (.ext (phiC P w c d a)) ∧ H d = some (.ext (phiD P w d)) ∧ d ≠ c ∧
  ∀ tm ds, DeepOk ds → t ⟨fun _ _ => False, fun v H' => (∃ tm' ds', H' c = some (.dK (canKvs d a tm')) ∧ H' d = some (.lst (ds'.map V.int)) ∧ DeepOk ds' ∧
    D.rt v (upd (upd H' c (.ext (phiC P w c d a))) d (.ext (phiD P w d)))), fun _ _ => False, fun _ _ => False⟩ σ (upd (upd H c (.dK (canKvs d a tm))) d (.lst (ds.map V.int)))
theorem pss_drawer {X : Cx} {st : List Stmt} {t : TS} (h : PSs X st t) : PSs X st (tDrawer X.prog X.w t) := by
  refine ⟨fun pins s σ H D I hw => ?_⟩
  obtain ⟨c, d, a, h1, h2, hcd, hw⟩ := hw
  obtain ⟨tm, ds, g, I1⟩ := opened I h1 h2 hcd
  refine thn (h.run pins s σ _ _ I1 (hw tm ds g)) fun f s1 q => ?_
  cases f with
  | next => obtain ⟨_, _, _, z⟩ := q; exact z.elim
  | brk => obtain ⟨_, _, _, z⟩ := q; exact z.elim
  | cont => obtain ⟨_, _, _, z⟩ := q; exact z.elim
  | ret v =>
    obtain ⟨x, σ', H', I2, r, tm', ds', e1, e2, g', z⟩ := q
    exact ⟨x, σ', _, closed I2 e1 e2 g' hcd, r, z⟩
end Lr

namespace Lr
open PySem L2 PySem.Spec PyProof.Rows
/-! ### a promise that is asked for only where no repr is under way -/
structure FnG (P : Program) (w : World) (K : PySem.W.Frag) (mg : Str → Option Value) (base : Heap)
    (k : Nat) (f : Addr) (fd : FuncData) (ps : List Str) (sp : Sp) : Prop where
  len : ∀ vs H Q E, sp vs H Q E → vs.length = ps.length
  go : ∀ (A : Around) (outer : List Env) (s : Shared) (H : Hp) (args : Args) (us : List Value)
      (vs : List V) (Q : VK) (E : XK), Room k A → A.guards = some [] →
      Env0 P w K mg base A outer s H → BindsTo s fd args (ps.zip us) → Vals vs us → sp vs H Q E →
      codeAny (model P w) A (.call (.ref f) args) (CR CX0 outer P w H s Q E) s
section
variable {P : Program} {w : World} {K : PySem.W.Frag} {mg : Str → Option Value} {base : Heap}
/-- by its body -/
theorem fnG {x qual : Str} {st : Stmt} {f : Addr} {fd : FuncData} {N ps : List Str} {k : Nat} {sp : Sp}
    (F : Fun K x qual st f fd) (S : FnScope N ps (defScope st))
    (len : ∀ vs H Q E, sp vs H Q E → vs.length = ps.length)
    (hbody : ∀ (cdv : Value) (A : Around) (outer : List Env) (s : Shared) (H : Hp) (vs : List V) (Q : VK) (E : XK),
      Room k (A.deeper (envOfC qual (defScope st) s.heap.objs.size f cdv)) →
      (A.deeper (envOfC qual (defScope st) s.heap.objs.size f cdv)).guards = some [] → sp vs H Q E →
      ∃ t, PSs (cxOf CX0 P w K mg base N qual (defScope st) f cdv A outer s H E).nox (defBody st) t ∧
        t { nx := fun _ G => Q .non G, rt := Q } (start N vs) H) :
    FnG P w K mg base (k + 1) f fd ps sp := by
  obtain ⟨oc, od, kV, doc, pm, an, cdv, ct, osl, rfl, lk, hcd⟩ := F.ex
  refine ⟨len, ?_⟩
  intro A outer s H args us vs Q E room hg env hb rel want
  have many := len _ _ _ _ want
  have inK : K.In s.heap := env.mod.kin.keeps fun b o e => (env.bs b o e).1
  have lim := env.mod.nolimit.keeps (h' := s.heap) fun b o e => (env.bs b o e).1
  refine codeAny_call_function room.depth (inK _ _ lk) rfl S.co S.gen rfl (PySem.W.codeRec_of inK hcd)
    (hb _ _ _ _ (wpAny_newFunctionEnv_cells S.kind (fun y hy => ?_) fun env' he s1 x1 => ?_))
  · obtain ⟨nm, val⟩ := y
    rcases S.par nm (List.of_mem_zip hy).1 with q | q
    · exact Or.inl q
    · exact Or.inr ⟨q, PySem.W.cellsFrom_some _ _ _ (Or.inl q)⟩
  · subst he
    refine ⟨lim.keeps x1.toInCall.keep, codeAny_func ?_⟩
    obtain ⟨t, ht, hq⟩ := hbody cdv A outer s H vs Q E (room.deeper _) hg want
    have J := inv_start (CX := CX0) (E := E) S room.hd env many rel x1
    refine wpAny_mono (ht.nox.run [] s1 (start N vs) H _ J hq) ?_ fun _ _ z => z
    intro fl s2 out
    cases fl with
    | ret u =>
      obtain ⟨v, σ2, H2, J2, rv, q⟩ := out
      exact ⟨v, H2, J2.os, J2.bare, J2.base, J2.hok, rv, q⟩
    | next =>
      obtain ⟨σ2, H2, J2, q⟩ := out
      exact ⟨.non, H2, J2.os, J2.bare, J2.base, J2.hok, rfl, q⟩
    | brk => obtain ⟨_, _, _, z⟩ := out; exact z.elim
    | cont => obtain ⟨_, _, _, z⟩ := out; exact z.elim
end
section
variable {X : Cx} {k : Nat} {f : Addr} {fd : FuncData} {ps : List Str} {sp : Sp} {x : Str} {p pos : Pos} {e : Expr} {es : List Expr} {t : TA}
/-- a call of such a def, where no repr is under way -/
theorem pe_callG (F : FnG X.prog X.w X.K X.mg X.base k f fd ps sp) (hr : Room k X.A) (hgd : X.A.guards = some []) (hg : Gl X x)
    (hm : X.mg x = some (.ref f)) (hk : PySem.W.keepIn X.K (.ref f) = true) (hb : Binds X.K fd ps [])
    (ha : PA X (e :: es) t) (hdb : (x == ("__debug__" : Str)) = false := by decide)
    (he : starEach (e :: es) X.env = (false, eval e X.env) :: starEach es X.env := by rfl)
    (hpl : (backTo pos (starEach es X.env)).any (·.1) = false := by rfl) :
    PE X (.Call (.Name x p) (e :: es) [] pos) (tCall sp [] E0 t) := by
  refine ⟨fun pins s σ H Q I h => wpAny_Call_Name_kw (ld_glob I hg hm ?_ hdb)⟩
  refine PySem.W.callWith_K (h₀ := X.base) I.ok.mod.kin hk ?_ he hpl
  refine thn (ha.run pos pins s σ H _ I h) ?_
  rintro us s1 ⟨vs, H1, I1, r, q⟩
  refine ⟨I1.kIn, ?_⟩
  rw [List.append_nil] at q
  have len := F.len _ _ _ _ q
  have bind := hb s1 us I1.kIn (by rw [List.append_nil, ← r.length]; exact len)
  rw [List.append_nil] at bind
  refine wpAny_call (codeAny_mono (F.go X.A X.stack s1 H1 ⟨us, []⟩ us vs Q E0 hr hgd I1.env0 bind r q) ?_)
  intro res s2 out
  cases res with
  | error u => exact False.elim out
  | ok fl =>
    cases fl with
    | ret u => exact I1.after out
    | next => exact False.elim out
    | brk => exact False.elim out
    | cont => exact False.elim out
end
/-! ### the law's end -/
theorem lawG {P : Program} {w : World} {K : PySem.W.Frag} {mg mb : Str → Option Value} {k : Nat} {fa a : Addr} {fd : FuncData} {x : Str} {sp : Sp}
    {t0 : Shared} {us : List Value} {ns : List Int} (inK : K.In t0.heap) (gl : t0.heap.Ns mainGlobals mg) (bl : t0.heap.Ns builtinsNs mb)
    (blt : ∀ y : Str, y ≠ "__name__" → mb y = bootBuiltins y) (lim : t0.heap.NoLimit) (nog : t0.gens = #[])
    (at' : t0.heap.get? a = some { cls := .type "list", data := .seq us.toArray }) (hints : IntsAre us ns) (short : ns.length ≤ sizeLine)
    (room : Room k callerA) (F : ∀ base : Heap, K.In base → base.Ns mainGlobals mg → FnG P w K mg base k fa fd [x] sp)
    (bind : ∀ (s : Shared) (u : Value), BindsTo s fd ⟨[u], []⟩ [(x, u)])
    (want : ∀ H : Hp, SqL K H a (ns.map V.int) → sp [.ref a] H (fun v _ => v = .bl true) fun _ _ _ => False) :
    codeAny (model P w) callerA (.call (.ref fa) ⟨[.ref a], []⟩)
      (fun r s2 => r = .ok (.ret (.bool true)) ∧ OldK t0.heap s2.heap ∧ s2.os = t0.os ∧ AllBare s2.gens) t0 := by
  have vals : Vals (ns.map V.int) us := vals_ints hints
  have same := hints.length
  -- over any abstract heap that tracks nothing but the script
  have main : ∀ H : Hp, (∀ b u, H b = some u → b = a ∧ K.lookup a = none ∧ ∃ o ys, u = .frz o (.lst ys)) → SqL K H a (ns.map V.int) → HOk P w H t0.heap →
      codeAny (model P w) callerA (.call (.ref fa) ⟨[.ref a], []⟩)
        (fun r s2 => r = .ok (.ret (.bool true)) ∧ OldK t0.heap s2.heap ∧ s2.os = t0.os ∧ AllBare s2.gens) t0 := by
    intro H only sq ok
    have noDict : ∀ {b : Addr} {o : Obj} {es : Array DictEntry} {ep : Nat}, t0.heap.get? b = some o → o.data = .dict es ep → H b = none := by
      intro b o es ep e dd
      cases q : H b with
      | none => rfl
      | some u =>
        obtain ⟨rfl, _⟩ := only b u q
        rw [at'] at e
        cases e
        cases dd
    have ns' : ∀ {b : Addr} {m : Str → Option Value}, t0.heap.Ns b m → (hidT t0.heap H).Ns b m := by
      rintro b m ⟨o, es, ep, e, dd, r⟩
      exact ⟨o, es, ep, hidT_get e (noDict e dd), dd, r⟩
    have inB : K.In (hidT t0.heap H) := by
      intro b o e
      refine hidT_get (inK b o e) ?_
      cases q : H b with
      | none => rfl
      | some u =>
        obtain ⟨rfl, z, _⟩ := only b u q
        rw [z] at e
        cases e
    obtain ⟨mc, l1, l2⟩ := lim
    have md : Mod K mg (hidT t0.heap H) := ⟨inB, ns' gl, ⟨mb, ns' bl, blt⟩, mc, ns' l1, l2⟩
    have env : Env0 P w K mg (hidT t0.heap H) callerA [] t0 H :=
      ⟨rfl, md, fun b o e => of_hidT e, Nat.le_of_eq (hidT_size _ _), trivial, fun b hb => absurd hb List.not_mem_nil, ok, AllBare.of_eq nog⟩
    refine codeAny_mono ((F _ inB (ns' gl)).go callerA [] t0 H ⟨[.ref a], []⟩ [.ref a] [.ref a] _ _ room rfl env (bind t0 (.ref a)) (.cons rfl .nil) (want H sq)) ?_
    intro r s2 out
    cases r with
    | error u => exact False.elim out
    | ok fl =>
      cases fl with
      | next => exact False.elim out
      | brk => exact False.elim out
      | cont => exact False.elim out
      | ret u =>
        obtain ⟨v, H2, os, bare, un, ok2, rv, q⟩ := out
        obtain rfl : v = .bl true := q
        obtain rfl : u = Value.bool true := rv
        refine ⟨rfl, OldK.of_keep ?_, os, bare⟩
        intro b o e
        cases z : H b with
        | none => exact un.keep b o e z (by intro y; cases y) (by simp)
        | some u =>
          obtain ⟨_, _, ob, ys, rfl⟩ := only b u z
          obtain ⟨e1, _⟩ := ok b _ z
          obtain ⟨e2, _⟩ := ok2 b _ (un.frzs b ob _ z)
          rw [e] at e1
          cases e1
          exact e2
  cases lk : K.lookup a with
  | some o =>
    have e := inK a o lk
    rw [at'] at e
    cases e
    refine main (fun _ => none) (fun b u z => by cases z) (.inr ⟨_, us.toArray, _, lk, rfl, rfl, rfl, ?_, by simpa using vals⟩) (fun b u z => by cases z)
    rw [List.size_toArray, same]
    exact short
  | none =>
    refine main (fun b => if b = a then some (.frz { cls := .type "list", data := .seq us.toArray } (.lst (ns.map V.int))) else none) ?_ (.inl (.inr ⟨_, if_pos rfl⟩)) ?_
    · intro b u z
      by_cases hb : b = a
      · have z2 := (if_pos hb).symm.trans z
        cases z2
        exact ⟨hb, lk, _, _, rfl⟩
      · have z2 := (if_neg hb).symm.trans z
        cases z2
    · intro b u z
      by_cases hb : b = a
      · have z2 := (if_pos hb).symm.trans z
        subst hb
        cases z2
        exact ⟨at', by rw [List.length_map]; exact short, us, _, vals, at'⟩
      · have z2 := (if_neg hb).symm.trans z
        cases z2
/-- what k_head leaves, from the promise of the law's def -/
theorem walkG {l : PySem.W.OpenLaw} {n k : Nat} {q : Program} {loose : List Str} {XP : (Str → Option Value) → Heap → Prop} {YP : World → Heap → Prop} {d : DefRec}
    {K : Params → PySem.W.Frag} {sp : World → Sp} {x : Str} (hn : l.most = some n) (hn2 : n ≤ sizeLine) (hdf : d.params.defaults = []) (hr : Room k callerA)
    (hY : ∀ (w : World) (h : Heap), YP w h → (K w.params).In h)
    (F : ∀ (w : World) (mg : Str → Option Value) (fa : Addr) (h : Heap), (K w.params).In h → h.Ns mainGlobals mg → mg d.name = some (.ref fa) →
      ∃ fd : FuncData, (∀ (s : Shared) (u : Value), BindsTo s fd ⟨[u], []⟩ [(x, u)]) ∧
        ∀ base : Heap, (K w.params).In base → base.Ns mainGlobals mg → FnG l.prog w (K w.params) mg base k fa fd [x] (sp w))
    (want : ∀ (w : World) (H : Hp) (a : Addr) (ns : List Int), ns.length ≤ n → SqL (K w.params) H a (ns.map V.int) → sp w [.ref a] H (fun v _ => v = .bl true) fun _ _ _ => False) :
    PySem.W.WalkO q loose XP YP l.row.toRowW d [] (fun f vs => PySem.call f vs) := by
  refine Att.attach_callB hn hdf ?_
  intro w s0 s1 mg mb fa o pm cd doc a vs ns G Y ho hd hcd hmg hobj hints hlen _ hg
  obtain ⟨fd, hb, hF⟩ := F w mg fa _ (hY w _ Y) G.T.g hmg
  exact lawG (hY w _ Y) G.T.g G.T.b G.T.builtins G.T.nolimit hg hobj hints (Nat.le_trans hlen hn2) hr hF hb fun H hS => want w H a ns hlen hS
end Lr

namespace Lr
open PySem L2 PySem.Spec PyProof.Rows
def keyD : Key → PyData
  | .inl i => .int i
  | .inr x => .str x
/-! ### data: what a value is, whatever it holds -/
mutual
inductive Dv (H : Hp) : V → PyData → Prop
  | non : Dv H .non .none
  | bl (b : Bool) : Dv H (.bl b) (.bool b)
  | int (i : Int) : Dv H (.int i) (.int i)
  | str (x : Str) : Dv H (.str x) (.str x)
  | lst {a : Addr} {xs : List V} {ds : List PyData} : H a = some (.lst xs) → DvAll H xs ds → Dv H (.ref a) (.list ds)
  | tup {a : Addr} {xs : List V} {ds : List PyData} : H a = some (.tup xs) → DvAll H xs ds → Dv H (.ref a) (.tuple ds)
  | tuf {a : Addr} {o : Obj} {xs : List V} {ds : List PyData} : H a = some (.frz o (.tup xs)) → DvAll H xs ds → Dv H (.ref a) (.tuple ds)
  | dic {a : Addr} {kvs : List (Key × V)} {ds : List (PyData × PyData)} : H a = some (.dK kvs) → DvKv H kvs ds → Dv H (.ref a) (.dict ds)
inductive DvAll (H : Hp) : List V → List PyData → Prop
  | nil : DvAll H [] []
  | cons {v : V} {vs : List V} {d : PyData} {ds : List PyData} : Dv H v d → DvAll H vs ds → DvAll H (v :: vs) (d :: ds)
inductive DvKv (H : Hp) : List (Key × V) → List (PyData × PyData) → Prop
  | nil : DvKv H [] []
  | cons {k : Key} {v : V} {vs : List (Key × V)} {d : PyData} {ds : List (PyData × PyData)} : Dv H v d → DvKv H vs ds → DvKv H ((k, v) :: vs) ((keyD k, d) :: ds)
end
mutual
def hasList : PyData → Bool
  | .list _ => true
  | .tuple xs => hasListAll xs
  | .dict kvs => hasListKv kvs
  | _ => false
def hasListAll : List PyData → Bool
  | [] => false
  | x :: xs => hasList x || hasListAll xs
def hasListKv : List (PyData × PyData) → Bool
  | [] => false
  | (_, v) :: xs => hasList v || hasListKv xs
end
section
variable {H H' : Hp}
mutual
theorem Dv.mono (e : Ex H H') : ∀ {v : V} {d : PyData}, Dv H v d → Dv H' v d
  | _, _, .non => .non
  | _, _, .bl b => .bl b
  | _, _, .int i => .int i
  | _, _, .str x => .str x
  | _, _, .lst h t => .lst (e _ _ h) (DvAll.mono e t)
  | _, _, .tup h t => .tup (e _ _ h) (DvAll.mono e t)
  | _, _, .tuf h t => .tuf (e _ _ h) (DvAll.mono e t)
  | _, _, .dic h t => .dic (e _ _ h) (DvKv.mono e t)
theorem DvAll.mono (e : Ex H H') : ∀ {v : List V} {d : List PyData}, DvAll H v d → DvAll H' v d
  | _, _, .nil => .nil
  | _, _, .cons a b => .cons (Dv.mono e a) (DvAll.mono e b)
theorem DvKv.mono (e : Ex H H') : ∀ {v : List (Key × V)} {d : List (PyData × PyData)}, DvKv H v d → DvKv H' v d
  | _, _, .nil => .nil
  | _, _, .cons a b => .cons (Dv.mono e a) (DvKv.mono e b)
end
theorem DvAll.len : ∀ {vs : List V} {ds : List PyData}, DvAll H vs ds → vs.length = ds.length
  | _, _, .nil => rfl
  | _, _, .cons _ t => congrArg (· + 1) t.len
theorem DvAll.app : ∀ {vs ws : List V} {ds es : List PyData}, DvAll H vs ds → DvAll H ws es → DvAll H (vs ++ ws) (ds ++ es)
  | _, _, _, _, .nil, s => s
  | _, _, _, _, .cons a t, s => .cons a (t.app s)
theorem DvAll.get : ∀ {vs : List V} {ds : List PyData} {i : Nat} {v : V}, DvAll H vs ds → vs[i]? = some v → ∃ d, ds[i]? = some d ∧ Dv H v d
  | _, _, _, _, .nil, e => by simp at e
  | _, _, 0, _, .cons a _, e => by simp at e; subst e; exact ⟨_, rfl, a⟩
  | _, _, i + 1, _, .cons _ t, e => by
    obtain ⟨d, h1, h2⟩ := t.get (i := i) (by simpa using e)
    exact ⟨d, by simpa using h1, h2⟩
theorem DvAll.getD : ∀ {vs : List V} {ds : List PyData} {i : Nat} {d : PyData}, DvAll H vs ds → ds[i]? = some d → ∃ v, vs[i]? = some v ∧ Dv H v d
  | _, _, _, _, .nil, e => by simp at e
  | _, _, 0, _, .cons a _, e => by simp at e; subst e; exact ⟨_, rfl, a⟩
  | _, _, i + 1, _, .cons _ t, e => by
    obtain ⟨v, h1, h2⟩ := t.getD (i := i) (by simpa using e)
    exact ⟨v, by simpa using h1, h2⟩
theorem DvAll.take : ∀ {vs : List V} {ds : List PyData} (n : Nat), DvAll H vs ds → DvAll H (vs.take n) (ds.take n)
  | _, _, 0, _ => .nil
  | _, _, _ + 1, .nil => .nil
  | _, _, n + 1, .cons a t => .cons a (t.take n)
theorem DvAll.drop : ∀ {vs : List V} {ds : List PyData} (n : Nat), DvAll H vs ds → DvAll H (vs.drop n) (ds.drop n)
  | _, _, 0, t => t
  | _, _, _ + 1, .nil => .nil
  | _, _, n + 1, .cons _ t => t.drop n
theorem dv_ints (H : Hp) : ∀ ns : List Int, DvAll H (ns.map V.int) (ns.map PyData.int)
  | [] => .nil
  | n :: r => .cons (.int n) (dv_ints H r)
end
/-! ### repr of data -/
theorem key_reads {h : Heap} {k : Key} {v : Value} (e : keyIs k v = true) : Reads h v (keyD k) [] := by
  rcases keyIs_shape e with ⟨i, t, rfl, rfl⟩ | ⟨x, t, rfl, rfl⟩
  · exact .int i t
  · exact .str x t
theorem keys_read {P : Program} {w : World} {h : Heap} {H : Hp} {es : List DictEntry} {vs : List (Key × Value)} (p : Pairs (mixKind P w) es vs) :
    ∀ {kvs : List (Key × V)} {ds : List (PyData × PyData)}, KV kvs vs → DvKv H kvs ds → ReadsAll h (es.map (·.key)) (ds.map (·.1)) [] := by
  induction p with
  | nil =>
    intro kvs ds q z
    cases q
    cases z
    exact .nil
  | cons h1 _ _ ih =>
    intro kvs ds q z
    cases q with
    | cons r q =>
      cases z with
      | cons a z =>
        have e := r.1
        simp only at e
        rw [← e] at h1
        exact ReadsAll.cons (as := []) (bs := []) (key_reads h1) (ih q z)
section
variable {X : Cx} {pins : List (Addr × Obj)} {σ : L2.St} {H : Hp} {s : Shared}
mutual
theorem Dv.reads (I : Inv X pins σ H s) : ∀ {v : V} {d : PyData} {u : Value}, Dv H v d → RelV v u → ∃ as, Reads s.heap u d as ∧ (hasList d = false → sysModules ∉ as)
  | _, _, _, .non, r => by cases r; exact ⟨[], .none, fun _ => List.not_mem_nil⟩
  | _, _, _, .bl b, r => by cases r; exact ⟨[], .bool b, fun _ => List.not_mem_nil⟩
  | _, _, _, .int i, r => by obtain ⟨t, rfl⟩ := r; exact ⟨[], .int i t, fun _ => List.not_mem_nil⟩
  | _, _, _, .str x, r => by obtain ⟨t, rfl⟩ := r; exact ⟨[], .str x t, fun _ => List.not_mem_nil⟩
  | _, _, _, .lst h t, r => by
    cases r
    obtain ⟨_, its, n, rv, e⟩ := I.hok _ _ h
    obtain ⟨as, q, _⟩ := DvAll.reads I t rv
    exact ⟨_ :: as, .list e rfl rfl (by simpa using q), fun z => by simp [hasList] at z⟩
  | _, _, _, .tup h t, r => by
    cases r
    obtain ⟨_, its, rv, o, e, hc, n, hd⟩ := I.hok _ _ h
    obtain ⟨as, q, z⟩ := DvAll.reads I t rv
    exact ⟨as, .tuple e hc hd (by simpa using q), fun y => z (by simpa [hasList] using y)⟩
  | _, _, _, .tuf h t, r => by
    cases r
    obtain ⟨_, _, its, rv, o, e, hc, n, hd⟩ := I.hok _ _ h
    obtain ⟨as, q, z⟩ := DvAll.reads I t rv
    exact ⟨as, .tuple e hc hd (by simpa using q), fun y => z (by simpa [hasList] using y)⟩
  | _, _, _, .dic h t, r => by
    cases r
    obtain ⟨_, ns, vs, kv, o, es, ep, e, hx, hd, _, hp, _⟩ := I.hok _ _ h
    obtain ⟨bs, q, z⟩ := DvKv.reads I t kv hp
    refine ⟨_ :: [] ++ bs, .dict e hx.1 hd (keys_read hp kv t) q, fun y hm => ?_⟩
    have y2 := z (by simpa [hasList] using y)
    rcases List.mem_cons.mp (by simpa using hm) with rfl | hm
    · simp at ns
    · exact y2 hm
theorem DvAll.reads (I : Inv X pins σ H s) : ∀ {vs : List V} {ds : List PyData} {us : List Value}, DvAll H vs ds → Vals vs us → ∃ as, ReadsAll s.heap us ds as ∧ (hasListAll ds = false → sysModules ∉ as)
  | _, _, _, .nil, .nil => ⟨[], .nil, fun _ => List.not_mem_nil⟩
  | _, _, _, .cons a b, .cons r q => by
    obtain ⟨as, h1, z1⟩ := Dv.reads I a r
    obtain ⟨bs, h2, z2⟩ := DvAll.reads I b q
    refine ⟨as ++ bs, .cons h1 h2, fun y hm => ?_⟩
    simp only [hasListAll, Bool.or_eq_false_iff] at y
    rcases List.mem_append.mp hm with m | m
    · exact z1 y.1 m
    · exact z2 y.2 m
theorem DvKv.reads (I : Inv X pins σ H s) : ∀ {kvs : List (Key × V)} {ds : List (PyData × PyData)} {vs : List (Key × Value)} {es : List DictEntry}, DvKv H kvs ds → KV kvs vs → Pairs (mixKind X.prog X.w) es vs →
    ∃ bs, ReadsAll s.heap (es.map (·.val)) (ds.map (·.2)) bs ∧ (hasListKv ds = false → sysModules ∉ bs)
  | _, _, _, _, .nil, .nil, .nil => ⟨[], .nil, fun _ => List.not_mem_nil⟩
  | _, _, _, _, .cons a b, .cons r q, .cons h1 h2 t => by
    obtain ⟨as, g1, z1⟩ := Dv.reads I a r.2
    obtain ⟨bs, g2, z2⟩ := DvKv.reads I b q t
    refine ⟨as ++ bs, .cons (by show Reads s.heap (DictEntry.val _) _ as; rw [h2]; exact g1) g2, fun y hm => ?_⟩
    simp only [hasListKv, Bool.or_eq_false_iff] at y
    rcases List.mem_append.mp hm with m | m
    · exact z1 y.1 m
    · exact z2 y.2 m
end
end
/-- what repr can show: small enough, and no list beside a dict, but for one just made -/
structure Fit (d : PyData) : Prop where
  sh : d.showable = true
  len : d.shown.length ≤ sizeLine
  dep : d.depth ≤ 60
def NoSys (v : V) (d : PyData) : Prop := hasList d = false ∨ ∃ p ds, v = .ref p ∧ d = .list ds ∧ p ≠ sysModules ∧ hasListAll ds = false
def rRepr : List V → Hp → VK → Prop := fun xs H Q => ∃ v d, xs = [v] ∧ Dv H v d ∧ Fit d ∧ (d.hasDict = true → NoSys v d) ∧ Q (.str d.shown) H
theorem reads_fit {X : Cx} {pins : List (Addr × Obj)} {σ : L2.St} {H : Hp} {s : Shared} {v : V} {d : PyData} {u : Value} (I : Inv X pins σ H s) (hd : Dv H v d) (rv : RelV v u) (ns : d.hasDict = true → NoSys v d) :
    ∃ as, Reads s.heap u d as ∧ (d.hasDict = true → sysModules ∉ as) := by
  by_cases hh : d.hasDict = true
  · rcases ns hh with n | ⟨p, ds, rfl, rfl, np, nl⟩
    · obtain ⟨as, r, z⟩ := Dv.reads I hd rv
      exact ⟨as, r, fun _ => z n⟩
    · cases rv
      cases hd with
      | lst h t =>
        obtain ⟨_, its, n, rv2, e⟩ := I.hok _ _ h
        obtain ⟨as, q, z⟩ := DvAll.reads I t rv2
        refine ⟨p :: as, .list e rfl rfl (by simpa using q), fun _ hm => ?_⟩
        rcases List.mem_cons.mp hm with e | hm
        · exact np e.symm
        · exact z nl hm
  · obtain ⟨as, r, _⟩ := Dv.reads I hd rv
    exact ⟨as, r, fun z => absurd z hh⟩
theorem call_repr {X : Cx} (hg : X.A.guards = some []) (hu : X.A.units + 64 < cLine) : CallR X (.builtin "repr") rRepr := by
  intro pins s σ H xs us Q I r h
  obtain ⟨v, d, rfl, hd, f, ns, q⟩ := h
  obtain ⟨u, rfl, rv⟩ := vals1 r
  have hdep := f.dep
  obtain ⟨as, rd, hs⟩ := reads_fit I hd rv ns
  have fin : ∀ (h' : Heap) (tk : Nat) (t : Tok), (∀ b o, s.heap.get? b = some o → h'.get? b = some o) → EP X pins σ Q (.str d.shown t) { s with heap := h', toks := tk } :=
    fun h' tk t k => ⟨.str d.shown, H, I.kept k, ⟨_, rfl⟩, q⟩
  cases hd with
  | non =>
    cases rv
    exact PySem.P.repr_of_none (fin s.heap _ _ fun _ _ e => e)
  | bl b =>
    cases rv
    exact PySem.P.repr_of_bool (fin s.heap _ _ fun _ _ e => e)
  | int i =>
    obtain ⟨t, rfl⟩ := rv
    exact PySem.P.repr_of_int (by simpa [PyData.showable] using f.sh) (fin s.heap _ _ fun _ _ e => e)
  | str x =>
    obtain ⟨t, rfl⟩ := rv
    exact PySem.P.repr_of_str (fin s.heap _ _ fun _ _ e => e) (by simpa [PyData.shown] using f.len)
  | lst h t =>
    cases rv
    exact repr_of_reads' rd f.sh hs hg (by omega) (fun _ _ e => e) (fun h' u tk k => fin h' tk u k) f.len
  | tup h t =>
    cases rv
    exact repr_of_reads' rd f.sh hs hg (by omega) (fun _ _ e => e) (fun h' u tk k => fin h' tk u k) f.len
  | tuf h t =>
    cases rv
    exact repr_of_reads' rd f.sh hs hg (by omega) (fun _ _ e => e) (fun h' u tk k => fin h' tk u k) f.len
  | dic h t =>
    cases rv
    exact repr_of_reads' rd f.sh hs hg (by omega) (fun _ _ e => e) (fun h' u tk k => fin h' tk u k) f.len
/-- a list display, its place told as no old one -/
def tLstN (t : TA) : TE := fun σ H Q => t σ H fun xs H1 => xs.length ≤ sizeLine ∧ ∀ p, H1 p = none → p ≠ sysModules → Q (.ref p) (upd H1 p (.lst xs))
theorem pe_lstN {X : Cx} {es : List Expr} {t : TA} {pos : Pos} (h : PA X es t) : PE X (.List es pos) (tLstN t) := by
  refine ⟨fun pins s σ H Q I hq => ?_⟩
  refine wpAny_List_spliced (thn (h.run pos pins s σ H _ I hq) ?_)
  rintro us s1 ⟨xs, H1, I1, r, z, q⟩
  refine ⟨by rw [← r.length]; exact z, ?_⟩
  have low : sysModules ≠ s1.heap.objs.size := by
    obtain ⟨o, _, _, e, _⟩ := I1.ok.mod.glob
    have h1 := Heap.lt_size e
    have h2 : sysModules < mainGlobals := by decide
    exact Nat.ne_of_lt (Nat.lt_of_lt_of_le (Nat.lt_trans h2 h1) (Nat.le_trans I1.ok.bsz I1.sz))
  have new : ObjOk X.prog X.w (upd H1 s1.heap.objs.size (.lst xs)) (s1.heap.push { cls := .type "list", data := .seq us.toArray }) s1.heap.objs.size (.lst xs) :=
    ⟨z, us, 0, r, Heap.get?_push_size _ rfl⟩
  exact ⟨.ref s1.heap.objs.size, _, I1.laid (t' := s1.toks) (fun b u e => Heap.get?_push_of_some _ e) (Nat.le_refl _) new, rfl, q _ (I1.hok.fresh (Nat.le_refl _)) low.symm⟩
end Lr

namespace Lr
open PySem L2 PyProof.Rows
/-- the built-in names that the text leaves alone -/
structure Blt (mg : Str → Option Value) : Prop where
  len : mg "len" = none
  range : mg "range" = none
  tuple : mg "tuple" = none
  list : mg "list" = none
  abs : mg "abs" = none
  int : mg "int" = none
  str : mg "str" = none
  bool : mg "bool" = none
  repr : mg "repr" = none
  isinstance : mg "isinstance" = none
  enumerate : mg "enumerate" = none
  sorted : mg "sorted" = none
  set : mg "set" = none
  all : mg "all" = none
  min : mg "min" = none
  max : mg "max" = none
  any : mg "any" = none
  zip : mg "zip" = none
  sum : mg "sum" = none
  reversed : mg "reversed" = none
theorem bt_len : bootBuiltins "len" = some (.builtin "len") := by decide +kernel
theorem bt_abs : bootBuiltins "abs" = some (.builtin "abs") := by decide +kernel
theorem bt_repr : bootBuiltins "repr" = some (.builtin "repr") := by decide +kernel
theorem bt_isinstance : bootBuiltins "isinstance" = some (.builtin "isinstance") := by decide +kernel
theorem bt_sorted : bootBuiltins "sorted" = some (.builtin "sorted") := by decide +kernel
theorem bt_min : bootBuiltins "min" = some (.builtin "min") := by decide +kernel
theorem bt_max : bootBuiltins "max" = some (.builtin "max") := by decide +kernel
theorem bt_any : bootBuiltins "any" = some (.builtin "any") := by decide +kernel
theorem bt_sum : bootBuiltins "sum" = some (.builtin "sum") := by decide +kernel
theorem bt_all : bootBuiltins "all" = some (.builtin "all") := by decide +kernel
theorem bt_int : bootBuiltins "int" = some (.type "int") := by decide +kernel
theorem bt_str : bootBuiltins "str" = some (.type "str") := by decide +kernel
theorem bt_tuple : bootBuiltins "tuple" = some (.type "tuple") := by decide +kernel
theorem bt_list : bootBuiltins "list" = some (.type "list") := by decide +kernel
theorem bt_set : bootBuiltins "set" = some (.type "set") := by decide +kernel
/-! ### tuples: plain or kept as they were made -/
/-- a tuple of xs stands at a, as it was made: its methods can be asked -/
def Ti (H : Hp) (a : Addr) (xs : List V) : Prop := ∃ o : Obj, H a = some (.frz o (.tup xs)) ∧ o.dict = none
/-- a tuple of xs stands at a -/
def Tu (H : Hp) (a : Addr) (xs : List V) : Prop := H a = some (.tup xs) ∨ ∃ o : Obj, H a = some (.frz o (.tup xs))
section
variable {H H' : Hp} {a : Addr} {xs : List V} {ds : List PyData} {K : PySem.W.Frag}
theorem Ti.tu (h : Ti H a xs) : Tu H a xs := by obtain ⟨o, h, _⟩ := h; exact .inr ⟨o, h⟩
theorem Tu.of (h : H a = some (.tup xs)) : Tu H a xs := .inl h
theorem Ti.ex (h : Ti H a xs) (e : Ex H H') : Ti H' a xs := by obtain ⟨o, h, d⟩ := h; exact ⟨o, e _ _ h, d⟩
theorem Tu.ex (h : Tu H a xs) (e : Ex H H') : Tu H' a xs := by
  rcases h with h | ⟨o, h⟩
  · exact .inl (e _ _ h)
  · exact .inr ⟨o, e _ _ h⟩
theorem Tu.sq (h : Tu H a xs) : SqT K H a xs := by
  rcases h with h | ⟨o, h⟩
  · exact .inl (.inl h)
  · exact .inl (.inr ⟨o, h⟩)
theorem Ti.sq (h : Ti H a xs) : SqT K H a xs := h.tu.sq
theorem Tu.dv (h : Tu H a xs) (t : DvAll H xs ds) : Dv H (.ref a) (.tuple ds) := by
  rcases h with h | ⟨o, h⟩
  · exact .tup h t
  · exact .tuf h t
theorem Ti.dv (h : Ti H a xs) (t : DvAll H xs ds) : Dv H (.ref a) (.tuple ds) := h.tu.dv t
theorem Tu.some (h : Tu H a xs) : ∃ o, H a = some o ∧ ∀ ys, o ≠ .lst ys := by
  rcases h with h | ⟨o, h⟩
  · exact ⟨_, h, fun _ z => nomatch z⟩
  · exact ⟨_, h, fun _ z => nomatch z⟩
theorem Tu.upd {p : Addr} {o : HO} (h : Tu H a xs) (hp : H p = none) : Tu (upd H p o) a xs := h.ex (Evl.Ex.new hp)
theorem Ti.upd {p : Addr} {o : HO} (h : Ti H a xs) (hp : H p = none) : Ti (L2.upd H p o) a xs := h.ex (Evl.Ex.new hp)
/-- a list may change -/
theorem Tu.lst {p : Addr} {ys zs : List V} (h : Tu H a xs) (hp : H p = .some (.lst ys)) : Tu (L2.upd H p (.lst zs)) a xs := by
  obtain ⟨o, q, n⟩ := h.some
  have ne : a ≠ p := ne_of q hp (n ys)
  rcases h with h | ⟨o, h⟩
  · exact .inl (by rw [upd_ne ne]; exact h)
  · exact .inr ⟨o, by rw [upd_ne ne]; exact h⟩
theorem Ti.lst {p : Addr} {ys zs : List V} (h : Ti H a xs) (hp : H p = .some (.lst ys)) : Ti (L2.upd H p (.lst zs)) a xs := by
  obtain ⟨o, h, d⟩ := h
  exact ⟨o, by rw [upd_ne (ne_of h hp (fun z => nomatch z))]; exact h, d⟩
end
/-- tuple(a list): kept as it is made -/
def rTupF (K : PySem.W.Frag) : List V → Hp → VK → Prop := fun xs H Q => ∃ p ys, xs = [V.ref p] ∧ SqL K H p ys ∧ ∀ (l : Addr) H', H l = none → Ex H H' → Ti H' l ys → Q (.ref l) H'
theorem k_tuple_F {X : Cx} {K : PySem.W.Frag} (hK : X.K = K) : CallR X (.type "tuple") (rTupF K) := by
  subst hK
  intro pins s σ H xs us Q I r h
  obtain ⟨p, ys, rfl, hq, q⟩ := h
  obtain ⟨u, rfl, rx⟩ := vals1 r
  cases rx
  obtain ⟨its, r', pl, hz⟩ := I.list hq
  have hlen := r'.length
  refine call_tuple_list pl.isList (fun h' kp => ?_) (by simp only [List.size_toArray] <;> omega)
  have I1 : Inv X pins σ H { s with heap := h' } := I.kept (t' := s.toks) kp
  have hn := I1.hok.fresh (Nat.le_refl _)
  have I2 : Inv X pins σ (L2.upd H h'.objs.size (.frz { cls := .type "tuple", data := .seq its.toArray } (.tup ys))) { s with heap := h'.push { cls := .type "tuple", data := .seq its.toArray } } :=
    I1.laid (t' := s.toks) (fun b o e => Heap.get?_push_of_some _ e) (Nat.le_refl _) (show ObjOk X.prog X.w _ _ _ (.frz { cls := .type "tuple", data := .seq its.toArray } (.tup ys)) from ⟨Heap.get?_push_size _ rfl, hz, its, r', IsTup.new _ _⟩)
  exact ⟨.ref h'.objs.size, _, I2, rfl, q _ _ hn (Evl.Ex.new hn) ⟨_, upd_same, rfl⟩⟩
/-! ### rules whose reading names the written part itself (for what stands in a comprehension) -/
section
variable {X : Cx} {K : PySem.W.Frag}
def rTupOf (K : PySem.W.Frag) : List V → Hp → VK → Prop := fun xs H Q => ∃ p ys, xs = [V.ref p] ∧ ((SqL K H p ys ∧ ∀ l, H l = none → Q (.ref l) (upd H l (.tup ys))) ∨ (SqT K H p ys ∧ Q (.ref p) H))
def rLstOf (K : PySem.W.Frag) : List V → Hp → VK → Prop := fun xs H Q => ∃ p ys, xs = [V.ref p] ∧ (SqL K H p ys ∨ SqT K H p ys) ∧ ∀ l, H l = none → Q (.ref l) (upd H l (.lst ys))
def rLenOf (K : PySem.W.Frag) : List V → Hp → VK → Prop := fun xs H Q => ∃ p ys, xs = [V.ref p] ∧ (SqL K H p ys ∨ SqT K H p ys) ∧ Q (.int ys.length) H
theorem k_tuple_of (h : X.K = K) : CallR X (.type "tuple") (rTupOf K) := by subst h; exact call_tuple_of
theorem k_list_of (h : X.K = K) : CallR X (.type "list") (rLstOf K) := by subst h; exact call_list_of
theorem k_len (h : X.K = K) : CallR X (.builtin "len") (rLenOf K) := by subst h; exact call_len_seq
theorem k_isi (h : X.K = K) : CallR X (.builtin "isinstance") (rIsi K) := by subst h; exact call_isi
theorem kx_list (h : X.K = K) : IxR X (rIxL K) := by subst h; exact ix_list
theorem kx_tup (h : X.K = K) : IxR X (rIxT K) := by subst h; exact ix_tup
theorem ks_list (h : X.K = K) : SlR X (rSlL K) := by subst h; exact sl_list
theorem ks_tup (h : X.K = K) : SlR X (rSlA K) := by subst h; exact sl_tupA
theorem ko_catT (h : X.K = K) : OpR X (binaryOp .Add) (rCatA K) := by subst h; exact op_catA
theorem ko_repT (h : X.K = K) : OpR X (binaryOp .Mult) (rRepT K) := by subst h; exact op_repT
theorem ko_eqD (h : X.K = K) (hu : X.A.units + 64 < cLine) : OpR X (compareOp .Eq) (rEqD K) := by subst h; exact op_eqD hu
theorem ko_neD (h : X.K = K) (hu : X.A.units + 64 < cLine) : OpR X (compareOp .NotEq) (rNeD K) := by subst h; exact op_neD hu
theorem ko_in (h : X.K = K) : OpR X (compareOp .In) (rIn K false) := by subst h; exact op_in_seq
theorem ko_notIn (h : X.K = K) : OpR X (compareOp .NotIn) (rIn K true) := by subst h; exact op_notIn_seq
theorem ki_list {tg l : Expr} {tl : TE} (h : X.K = K) (p : PE X l tl) : PI X tg l (iList K tl) := by subst h; exact pi_list p
theorem ki_tup {tg l : Expr} {tl : TE} (h : X.K = K) (p : PE X l tl) : PI X tg l (iTup K tl) := by subst h; exact pi_tup p
end
/-- a def by its name, with its promise -/
def Cal (P : Program) (w : World) (K : PySem.W.Frag) (mg : Str → Option Value) (base : Heap) (k : Nat) (x : Str) (ps : List Str) (sp : Sp) : Prop :=
  ∃ f fd, FnOk P w K mg base CX0 k f fd ps sp ∧ mg x = some (.ref f) ∧ PySem.W.keepIn K (.ref f) = true ∧ Binds K fd ps []
theorem pe_cal {X : Cx} {k : Nat} {x : Str} {ps : List Str} {sp : Sp} {e : Expr} {es : List Expr} {t : TA} {p pos : Pos} (C : Cal X.prog X.w X.K X.mg X.base k x ps sp) (hr : Room k X.A) (hg : Gl X x) (ha : PA X (e :: es) t)
    (hdb : (x == ("__debug__" : Str)) = false := by decide) (he : starEach (e :: es) X.env = (false, eval e X.env) :: starEach es X.env := by rfl) (hpl : (backTo pos (starEach es X.env)).any (·.1) = false := by rfl) :
    PE X (.Call (.Name x p) (e :: es) [] pos) (tCall sp [] E0 t) := by
  obtain ⟨f, fd, G, m, kp, b⟩ := C
  exact pe_call G hr hg m kp b .nil pass0 ha hdb he hpl
/-- a body that makes a drawer closes it ahead of its return -/
def tShut (P : Program) (w : World) (t : TS) : TS := fun D σ H => t ⟨fun _ _ => False, fun v H' => (∃ c d a tm ds, v = .ref c ∧ H' c = some (.dK (canKvs d a tm)) ∧ H' d = some (.lst (ds.map V.int)) ∧ DeepOk ds ∧ d ≠ c ∧
    D.rt v (upd (upd H' c (.ext (phiC P w c d a))) d (.ext (phiD P w d)))), fun _ _ => False, fun _ _ => False⟩ σ H
theorem pss_shut {X : Cx} {st : List Stmt} {t : TS} (h : PSs X st t) : PSs X st (tShut X.prog X.w t) := by
  refine ⟨fun pins s σ H D I hw => ?_⟩
  refine thn (h.run pins s σ _ _ I hw) fun f s1 q => ?_
  cases f with
  | next => obtain ⟨_, _, _, z⟩ := q; exact z.elim
  | brk => obtain ⟨_, _, _, z⟩ := q; exact z.elim
  | cont => obtain ⟨_, _, _, z⟩ := q; exact z.elim
  | ret v =>
    obtain ⟨x, σ', H', I2, r, c, d, a, tm, ds, rfl, e1, e2, g, hcd, z⟩ := q
    exact ⟨_, σ', _, closed I2 e1 e2 g hcd, r, z⟩
theorem at_in {α : Type} {xs : List α} {r : Int} (h0 : 0 ≤ r) (h1 : r < (xs.length : Int)) : ∃ v, v ∈ xs ∧ atI xs r = some v ∧ xs[r.toNat]? = some v := by
  have hr : r.toNat < xs.length := by omega
  have er : ((r.toNat : Nat) : Int) = r := by omega
  have q := atI_nat (List.getElem?_eq_getElem hr)
  rw [er] at q
  exact ⟨xs[r.toNat], List.getElem_mem hr, q, List.getElem?_eq_getElem hr⟩
theorem ints_of : ∀ {ys : List V}, (∀ (k : Nat) (v : V), ys[k]? = some v → ∃ z, v = .int z) → ∃ cs : List Int, ys = cs.map V.int
  | [], _ => ⟨[], rfl⟩
  | y :: r, h => by
    obtain ⟨z, rfl⟩ := h 0 y rfl
    obtain ⟨cs, rfl⟩ := ints_of (ys := r) fun k v e => h (k + 1) v (by simpa using e)
    exact ⟨z :: cs, rfl⟩
theorem cut_all {xs : List V} {n : Nat} (h : xs.length ≤ n) : cutV xs none (some (n : Int)) = xs := by
  unfold cutV
  rw [HT.sIx_none, HT.sIx_nat, Nat.min_eq_right h]
  simp
/-! ### comprehensions whose items stay known while the new list grows -/
/-- all but lists is as it was -/
def Exl (H H' : Hp) : Prop := ∀ a o, (∀ xs, o ≠ .lst xs) → H a = some o → H' a = some o
theorem Exl.refl (H : Hp) : Exl H H := fun _ _ _ h => h
theorem Exl.of {H H' : Hp} (e : Ex H H') : Exl H H' := fun a o _ h => e a o h
theorem Exl.trans {H H1 H2 : Hp} (a : Exl H H1) (b : Exl H1 H2) : Exl H H2 := fun x o n h => b x o n (a x o n h)
theorem Exl.grow {H : Hp} {D : Addr} {xs ys : List V} (h : H D = some (.lst xs)) : Exl H (upd H D (.lst ys)) := fun a o n e => by
  rw [upd_ne (ne_of e h (n xs))]
  exact e
theorem nl_tup {ds : List PyData} (h : hasList (.tuple ds) = false) : hasListAll ds = false := by simpa [hasList] using h
theorem nl_dic {ds : List (PyData × PyData)} (h : hasList (.dict ds) = false) : hasListKv ds = false := by simpa [hasList] using h
theorem nl_hd {d : PyData} {ds : List PyData} (h : hasListAll (d :: ds) = false) : hasList d = false := by simp only [hasListAll, Bool.or_eq_false_iff] at h; exact h.1
theorem nl_tl {d : PyData} {ds : List PyData} (h : hasListAll (d :: ds) = false) : hasListAll ds = false := by simp only [hasListAll, Bool.or_eq_false_iff] at h; exact h.2
theorem nk_hd {k d : PyData} {ds : List (PyData × PyData)} (h : hasListKv ((k, d) :: ds) = false) : hasList d = false := by simp only [hasListKv, Bool.or_eq_false_iff] at h; exact h.1
theorem nk_tl {k d : PyData} {ds : List (PyData × PyData)} (h : hasListKv ((k, d) :: ds) = false) : hasListKv ds = false := by simp only [hasListKv, Bool.or_eq_false_iff] at h; exact h.2
theorem nl_lst {ds : List PyData} {p : Prop} (h : hasList (.list ds) = false) : p := by simp [hasList] at h
theorem tup_nolst {xs : List V} : ∀ ys, HO.tup xs ≠ .lst ys := fun _ y => nomatch y
theorem frz_nolst {o : Obj} {u : HO} : ∀ ys, HO.frz o u ≠ .lst ys := fun _ y => nomatch y
theorem dK_nolst {xs : List (Key × V)} : ∀ ys, HO.dK xs ≠ .lst ys := fun _ y => nomatch y
theorem yesT {σ : L2.St} {H : Hp} {A B : Hp → Prop} (h : A H) : tYes σ H (fun b H3 => if b = true then A H3 else B H3) := by
  show (if true = true then A H else B H)
  rw [if_pos rfl]
  exact h
section
variable {H H' : Hp}
mutual
theorem Dv.exl (e : Exl H H') : ∀ {v : V} {d : PyData}, Dv H v d → (hasList d = false → Dv H' v d)
  | _, _, .non => fun _ => .non
  | _, _, .bl b => fun _ => .bl b
  | _, _, .int i => fun _ => .int i
  | _, _, .str x => fun _ => .str x
  | _, _, .lst _ _ => fun z => nl_lst z
  | _, _, .tup h t => fun z => .tup (e _ _ tup_nolst h) (DvAll.exl e t (nl_tup z))
  | _, _, .tuf h t => fun z => .tuf (e _ _ frz_nolst h) (DvAll.exl e t (nl_tup z))
  | _, _, .dic h t => fun z => .dic (e _ _ dK_nolst h) (DvKv.exl e t (nl_dic z))
theorem DvAll.exl (e : Exl H H') : ∀ {v : List V} {d : List PyData}, DvAll H v d → (hasListAll d = false → DvAll H' v d)
  | _, _, .nil => fun _ => .nil
  | _, _, .cons a b => fun z => .cons (Dv.exl e a (nl_hd z)) (DvAll.exl e b (nl_tl z))
theorem DvKv.exl (e : Exl H H') : ∀ {v : List (Key × V)} {d : List (PyData × PyData)}, DvKv H v d → (hasListKv d = false → DvKv H' v d)
  | _, _, .nil => fun _ => .nil
  | _, _, .cons a b => fun z => .cons (Dv.exl e a (nk_hd z)) (DvKv.exl e b (nk_tl z))
end
end
/-- an item's value is told by the item's place: what M says of it holds on while other lists change -/
def Gives (te : TE) (σ : L2.St) (H1 : Hp) (M : V → Hp → Prop) : Prop := ∀ H', Ex H1 H' → ∀ Q : VK, (∀ v H2, Ex H' H2 → M v H2 → Q v H2) → te σ H' Q
section
variable {K : PySem.W.Frag} {a : Addr} {xs : List V} {te : TE} {vs : List Nat} {σ : L2.St} {H1 : Hp} {D : Addr} {Qd : Hp → Prop} {j : Nat}
theorem made_turn {i : Nat} {M : Nat → V → Hp → Prop} {σ2 : L2.St} {H' : Hp} {ys : List V} (hD : H1 D = none) (st : ∀ i v G G', Ex H1 G → Ex H1 G' → Exl G G' → M i v G → M i v G') (e : Ex H1 H') (hy : H' D = some (.lst ys)) (hl : ys.length = i) (hi : i < 100000)
    (hm : ∀ (k : Nat) (v : V), ys[k]? = some v → M k v H') (he : Gives te σ2 H1 (M i)) :
    te σ2 H' fun y H4 => ∃ acc, H4 D = some (.lst acc) ∧ acc.length < sizeLine ∧ ∃ zs : List V, zs.length = i + 1 ∧ Ex H1 (upd H4 D (.lst (acc ++ [y]))) ∧ upd H4 D (.lst (acc ++ [y])) D = some (.lst zs) ∧ ∀ (k : Nat) (v : V), zs[k]? = some v → M k v (upd H4 D (.lst (acc ++ [y]))) := by
  refine he H' e _ fun v H2 e2 m => ⟨ys, e2 _ _ hy, by rw [hl]; exact Evl.sz_lt hi, ys ++ [v], by simp [hl], Evl.Ex.mut (e.trans e2) hD, upd_same, fun k u hk => ?_⟩
  have g : Exl H2 (upd H2 D (.lst (ys ++ [v]))) := Exl.grow (e2 _ _ hy)
  have e3 : Ex H1 (upd H2 D (.lst (ys ++ [v]))) := Evl.Ex.mut (e.trans e2) hD
  by_cases hk2 : k < ys.length
  · rw [List.getElem?_append_left hk2] at hk
    exact st k u H' _ e e3 ((Exl.of e2).trans g) (hm k u hk)
  · have hz := (List.getElem?_eq_some_iff.mp hk).1
    have ek : k = i := by simp at hz; omega
    subst ek
    rw [List.getElem?_append_right (by omega), hl] at hk
    simp at hk
    subst hk
    exact st k v H2 _ (e.trans e2) e3 g m
/-- [e for x in a list] -/
theorem made_list (M : Nat → V → Hp → Prop) (hD : H1 D = none) (hx : SqL K H1 a xs) (hn : xs.length < 100000) (st : ∀ i v G G', Ex H1 G → Ex H1 G' → Exl G G' → M i v G → M i v G')
    (hw : ∀ x, wipe ((wipe σ vs).set j (some x)) vs = wipe σ vs) (he : ∀ i x, xs[i]? = some x → Gives te ((wipe σ vs).set j (some x)) H1 (M i))
    (hd : ∀ (ys : List V) H', ys.length = xs.length → Ex H1 H' → H' D = some (.lst ys) → (∀ (k : Nat) (v : V), ys[k]? = some v → M k v H') → Qd H') :
    ∃ W : Nat → Nat → Hp → Prop, (∃ m, W 0 m (upd H1 D (.lst []))) ∧ ∀ i m H, W i m H →
      ((Itl K a).stop i H ∧ Qd H) ∨ ((Itl K a).go i H ∧ ∃ Nx : Hp → Prop, (∀ H', Nx H' → ∃ m', m' < m ∧ W (i + 1) m' H') ∧ ∀ x H', (Itl K a).yld i H x H' → gName j x (wipe σ vs) H' fun σ2 H2 => wipe σ2 vs = wipe σ vs ∧ tYes σ2 H2 fun b H3 =>
        if b = true then te σ2 H3 fun y H4 => ∃ acc, H4 D = some (.lst acc) ∧ acc.length < sizeLine ∧ Nx (upd H4 D (.lst (acc ++ [y]))) else Nx H3) :=
  lc_list (xs := xs) (fun i H' => ∃ zs : List V, zs.length = i ∧ Ex H1 H' ∧ H' D = some (.lst zs) ∧ ∀ (k : Nat) (v : V), zs[k]? = some v → M k v H') ⟨[], rfl, Evl.Ex.new hD, upd_same, fun k v z => by simp at z⟩
    (fun i H' _ ⟨_, _, e, _⟩ => Evl.ex_l e hx) (fun i x H' hi ⟨zs, hl, e, hy, hm⟩ => by
      have lt := (List.getElem?_eq_some_iff.mp hi).1
      exact ⟨hw x, yesT (made_turn hD st e hy hl (by omega) hm (he i x hi))⟩)
    (fun H' ⟨zs, hl, e, hy, hm⟩ => hd zs H' hl e hy hm)
/-- [e for x in a tuple] -/
theorem made_tup (M : Nat → V → Hp → Prop) (hD : H1 D = none) (hx : SqT K H1 a xs) (hn : xs.length < 100000) (st : ∀ i v G G', Ex H1 G → Ex H1 G' → Exl G G' → M i v G → M i v G')
    (hw : ∀ x, wipe ((wipe σ vs).set j (some x)) vs = wipe σ vs) (he : ∀ i x, xs[i]? = some x → Gives te ((wipe σ vs).set j (some x)) H1 (M i))
    (hd : ∀ (ys : List V) H', ys.length = xs.length → Ex H1 H' → H' D = some (.lst ys) → (∀ (k : Nat) (v : V), ys[k]? = some v → M k v H') → Qd H') :
    ∃ W : Nat → Nat → Hp → Prop, (∃ m, W 0 m (upd H1 D (.lst []))) ∧ ∀ i m H, W i m H →
      ((Itt K a).stop i H ∧ Qd H) ∨ ((Itt K a).go i H ∧ ∃ Nx : Hp → Prop, (∀ H', Nx H' → ∃ m', m' < m ∧ W (i + 1) m' H') ∧ ∀ x H', (Itt K a).yld i H x H' → gName j x (wipe σ vs) H' fun σ2 H2 => wipe σ2 vs = wipe σ vs ∧ tYes σ2 H2 fun b H3 =>
        if b = true then te σ2 H3 fun y H4 => ∃ acc, H4 D = some (.lst acc) ∧ acc.length < sizeLine ∧ Nx (upd H4 D (.lst (acc ++ [y]))) else Nx H3) :=
  lc_tup (xs := xs) (fun i H' => ∃ zs : List V, zs.length = i ∧ Ex H1 H' ∧ H' D = some (.lst zs) ∧ ∀ (k : Nat) (v : V), zs[k]? = some v → M k v H') ⟨[], rfl, Evl.Ex.new hD, upd_same, fun k v z => by simp at z⟩
    (fun i H' _ ⟨_, _, e, _⟩ => Evl.ex_t e hx) (fun i x H' hi ⟨zs, hl, e, hy, hm⟩ => by
      have lt := (List.getElem?_eq_some_iff.mp hi).1
      exact ⟨hw x, yesT (made_turn hD st e hy hl (by omega) hm (he i x hi))⟩)
    (fun H' ⟨zs, hl, e, hy, hm⟩ => hd zs H' hl e hy hm)
/-- [e for k in range(n)] -/
theorem made_range {n : Nat} (M : Nat → V → Hp → Prop) (hD : H1 D = none) (hn : n < 100000) (st : ∀ i v G G', Ex H1 G → Ex H1 G' → Exl G G' → M i v G → M i v G')
    (hw : ∀ x, wipe ((wipe σ vs).set j (some x)) vs = wipe σ vs) (he : ∀ i : Nat, i < n → Gives te ((wipe σ vs).set j (some (.int (i : Int)))) H1 (M i))
    (hd : ∀ (ys : List V) H', ys.length = n → Ex H1 H' → H' D = some (.lst ys) → (∀ (k : Nat) (v : V), ys[k]? = some v → M k v H') → Qd H') :
    ∃ W : Nat → Nat → Hp → Prop, (∃ m, W 0 m (upd H1 D (.lst []))) ∧ ∀ i m H, W i m H →
      ((Itr 0 n).stop i H ∧ Qd H) ∨ ((Itr 0 n).go i H ∧ ∃ Nx : Hp → Prop, (∀ H', Nx H' → ∃ m', m' < m ∧ W (i + 1) m' H') ∧ ∀ x H', (Itr 0 n).yld i H x H' → gName j x (wipe σ vs) H' fun σ2 H2 => wipe σ2 vs = wipe σ vs ∧ tYes σ2 H2 fun b H3 =>
        if b = true then te σ2 H3 fun y H4 => ∃ acc, H4 D = some (.lst acc) ∧ acc.length < sizeLine ∧ Nx (upd H4 D (.lst (acc ++ [y]))) else Nx H3) :=
  lc_range (lo := 0) (n := n) (fun i H' => ∃ zs : List V, zs.length = i ∧ Ex H1 H' ∧ H' D = some (.lst zs) ∧ ∀ (k : Nat) (v : V), zs[k]? = some v → M k v H') ⟨[], rfl, Evl.Ex.new hD, upd_same, fun k v z => by simp at z⟩
    (fun i H' hi ⟨zs, hl, e, hy, hm⟩ => by
      have g := made_turn hD st e hy hl (by omega) hm (he i hi)
      have e0 : (0 : Int) + (i : Int) = (i : Int) := Int.zero_add _
      show wipe ((wipe σ vs).set j (some (.int (0 + (i : Int))))) vs = wipe σ vs ∧ tYes ((wipe σ vs).set j (some (.int (0 + (i : Int))))) H' _
      rw [e0]
      exact ⟨hw _, yesT g⟩)
    (fun H' ⟨zs, hl, e, hy, hm⟩ => hd zs H' hl e hy hm)
end
/-! ### tuples cut and joined: some tuple of that content, new or old -/
section
variable {K : PySem.W.Frag} {H : Hp} {a b : Addr} {xs ys : List V} {Q : VK}
theorem cut_whole {lo hi : Option Int} (h : HT.sIx xs.length 0 lo = 0 ∧ HT.sIx xs.length xs.length hi = xs.length) : cutV xs lo hi = xs := by
  unfold cutV
  rw [h.1, h.2]
  simp
theorem sl_at {lo hi : Option Int} (h : H a = some (.tup xs)) (k : ∀ b H', Ex H H' → H' b = some (.tup (cutV xs lo hi)) → Q (.ref b) H') : rSlA K (.ref a) lo hi H Q :=
  ⟨a, xs, rfl, SqT.of h, fun w => k a H (Evl.Ex.refl H) (by rw [cut_whole w]; exact h), fun _ p hp => k p _ (Evl.Ex.new hp) upd_same⟩
theorem cat_at (h1 : H a = some (.tup xs)) (h2 : H b = some (.tup ys)) (hl : xs.length + ys.length ≤ 100000) (k : ∀ p H', Ex H H' → H' p = some (.tup (xs ++ ys)) → Q (.ref p) H') : rCatA K (.ref a) (.ref b) H Q :=
  ⟨a, b, xs, ys, rfl, rfl, SqT.of h1, SqT.of h2, Evl.sz_of hl, fun z => k b H (Evl.Ex.refl H) (by subst z; exact h2), fun _ z => k a H (Evl.Ex.refl H) (by subst z; rw [List.append_nil]; exact h1), fun _ _ p hp => k p _ (Evl.Ex.new hp) upd_same⟩
end
theorem cut_from {xs : List V} {k : Nat} : cutV xs (some (k : Int)) none = xs.drop k := by
  unfold cutV
  rw [HT.sIx_none, HT.sIx_nat]
  by_cases h : k ≤ xs.length
  · rw [Nat.min_eq_left h, List.take_of_length_le (by simp)]
  · rw [Nat.min_eq_right (by omega), List.drop_of_length_le (Nat.le_refl _), List.drop_of_length_le (by omega)]
    simp
theorem cut_to {xs : List V} {k : Nat} : cutV xs none (some (k : Int)) = xs.take k := by
  unfold cutV
  rw [HT.sIx_none, HT.sIx_nat]
  by_cases h : k ≤ xs.length
  · rw [Nat.min_eq_left h]
    simp
  · rw [Nat.min_eq_right (by omega)]
    simp [List.take_of_length_le (show xs.length ≤ k by omega)]
/-! ### [x for x in a tuple if ..] -/
section
variable {K : PySem.W.Frag} {a : Addr} {xs : List V} {tt : TT} {te : TE} {vs : List Nat} {σ : L2.St} {H1 : Hp} {D : Addr} {Qd : Hp → Prop} {j : Nat}
theorem filt_tup (f : V → Bool) (hD : H1 D = none) (hx : SqT K H1 a xs) (hn : xs.length < 100000) (hw : ∀ x, wipe ((wipe σ vs).set j (some x)) vs = wipe σ vs)
    (ht : ∀ x H', x ∈ xs → Ex H1 H' → ∀ Q : Bool → Hp → Prop, Q (f x) H' → tt ((wipe σ vs).set j (some x)) H' Q) (he : ∀ x H', Ex H1 H' → ∀ Q : VK, Q x H' → te ((wipe σ vs).set j (some x)) H' Q)
    (hd : ∀ H', Ex H1 H' → H' D = some (.lst (xs.filter f)) → Qd H') :
    ∃ W : Nat → Nat → Hp → Prop, (∃ m, W 0 m (upd H1 D (.lst []))) ∧ ∀ i m H, W i m H →
      ((Itt K a).stop i H ∧ Qd H) ∨ ((Itt K a).go i H ∧ ∃ Nx : Hp → Prop, (∀ H', Nx H' → ∃ m', m' < m ∧ W (i + 1) m' H') ∧ ∀ x H', (Itt K a).yld i H x H' → gName j x (wipe σ vs) H' fun σ2 H2 => wipe σ2 vs = wipe σ vs ∧ tt σ2 H2 fun b H3 =>
        if b = true then te σ2 H3 fun y H4 => ∃ acc, H4 D = some (.lst acc) ∧ acc.length < sizeLine ∧ Nx (upd H4 D (.lst (acc ++ [y]))) else Nx H3) := by
  refine lc_tup (xs := xs) (fun i H' => Ex H1 H' ∧ H' D = some (.lst ((xs.take i).filter f)) ∧ i ≤ xs.length) ⟨Evl.Ex.new hD, by simp [upd_same], Nat.zero_le _⟩ (fun i H' _ h => Evl.ex_t h.1 hx) ?_ ?_
  · rintro i x H' hi ⟨e, hy, hle⟩
    have lt := (List.getElem?_eq_some_iff.mp hi).1
    have hxm : x ∈ xs := List.mem_of_getElem? hi
    have step : xs.take (i + 1) = xs.take i ++ [x] := by
      rw [List.take_succ, hi]
      rfl
    refine ⟨hw x, ht x H' hxm e _ ?_⟩
    cases hf : f x with
    | true =>
      refine iteT (he x H' e _ ⟨_, hy, ?_, Evl.Ex.mut e hD, ?_, lt⟩)
      · refine Nat.lt_of_le_of_lt (List.length_filter_le _ _) (Evl.sz_lt ?_)
        rw [List.length_take]
        omega
      · rw [upd_same, step, List.filter_append]
        simp [hf]
    | false =>
      refine iteF ⟨e, ?_, lt⟩
      rw [hy, step, List.filter_append]
      simp [hf]
  · rintro H' ⟨e, hy, _⟩
    rw [List.take_of_length_le (Nat.le_refl _)] at hy
    exact hd H' e hy
end
end Lr

namespace Lr
open PySem L2 PySem.Spec PyProof.Rows
/-! ### for i, c in enumerate(a text) -/
def ItS (z : Str) : It :=
  ⟨fun i _ => i < z.cps.size, fun i H v G => ∃ T c, v = .ref T ∧ H T = none ∧ z.cps[i]? = some c ∧ G = upd H T (.tup [.int (i : Nat), .str ⟨#[c]⟩]), fun i _ => z.cps.size ≤ i⟩
theorem turn_enumS {P : Program} {w : World} {K : PySem.W.Frag} {elts : List Expr} {kk : Nat} {tpos : Pos} (z : Str) (tk : Tok) (e it : Addr) :
    Turn P w K (.Tuple elts kk tpos) (ItS z) [e, it] e (fun i h => (∃ old, IsEnum h e it ((i : Nat) : Int) old) ∧ h.IsStrIter it (strIterType z) z tk i ∧ e ≠ it ∧ i ≤ z.cps.size) where
  mem := by simp
  obj := by
    rintro i h ⟨⟨old, he⟩, ⟨o, ho, hc, hd⟩, _⟩ b hb
    rcases (show b = e ∨ b = it by simpa using hb) with q | q
    · subst q
      exact ⟨_, he, fun v q => nomatch q⟩
    · subst q
      exact ⟨o, ho, fun v q => by rw [hd] at q; cases q⟩
  keep := by
    rintro i h h2 ⟨⟨old, he⟩, ⟨o, ho, r⟩, hne⟩ k
    exact ⟨⟨old, k e (by simp) _ he⟩, ⟨o, k it (by simp) _ ho, r⟩, hne⟩
  item := by
    intro X hP hw hK hc i pins s σ H E I hf st hg
    subst hP hw hK
    obtain ⟨⟨old, he⟩, hit, hne, hle⟩ := st
    have eLt : e < s.heap.objs.size := Heap.lt_size he
    have iLt : it < s.heap.objs.size := by obtain ⟨_, q, _⟩ := hit; exact Heap.lt_size q
    have D := Draws.text (prog := X.prog) (w := X.w) (A := X.A.in1) (I.ok.hd hc) it z tk
    refine wpAny_pyNext_enum_itemD D he hit hg hne (by simpa using hne) fun x h2 t2 hx out hit2 hT hsz hk => ?_
    obtain ⟨c, u, hcx, rfl⟩ := hx
    refine ⟨_, rfl, wpAny_letOwnedTupleGo_enum (s := { s with heap := h2, toks := t2 + 1 }) out fun h3 he3 sb => ?_⟩
    have hT3 : h3.get? s.heap.objs.size = some { cls := .type "tuple", data := .seq #[.int i t2, .str ⟨#[c]⟩ u] } := (sb.2 _ (Nat.ne_of_gt eLt)).trans hT
    have new : ObjOk X.prog X.w (upd H s.heap.objs.size (.tup [.int (i : Nat), .str ⟨#[c]⟩])) h3 s.heap.objs.size (.tup [.int (i : Nat), .str ⟨#[c]⟩]) :=
      ⟨(by show 2 ≤ sizeLine; decide), [.int i t2, .str ⟨#[c]⟩ u], .cons ⟨_, rfl⟩ (.cons ⟨_, rfl⟩ .nil), ⟨_, hT3, rfl, _, rfl⟩⟩
    have kept : ∀ b ob, b ∉ [e, it] → s.heap.get? b = some ob → h3.get? b = some ob := fun b ob hb q =>
      (sb.2 b (fun y => hb (by simp [y]))).trans (hk b ob (fun y => hb (by simp [y])) (fun y => hb (by simp [y])) q)
    have I3 : Inv X pins σ (upd H s.heap.objs.size (.tup [.int (i : Nat), .str ⟨#[c]⟩])) { s with heap := h3, toks := t2 + 1 } := I.turnedNew (ch := [e, it]) kept hf (Nat.le_refl _) new
    refine ⟨.ref s.heap.objs.size, _, I3, rfl, ⟨_, c, rfl, I.hok.fresh (Nat.le_refl _), hcx, rfl⟩, ⟨⟨.str ⟨#[c]⟩ u, ?_⟩, ?_, hne, hg⟩, fun b hb => ?_⟩
    · have e1 : ((i + 1 : Nat) : Int) = (i : Int) + 1 := by omega
      rw [e1]
      exact he3
    · obtain ⟨o, ho, r⟩ := hit2
      exact ⟨o, (sb.2 it (Ne.symm hne)).trans ho, r⟩
    · have lt : b < s.heap.objs.size := by
        rcases (show b = e ∨ b = it by simpa using hb) with q | q <;> (rw [q]; assumption)
      rw [upd_ne (Nat.ne_of_lt lt)]
      exact (hf b hb).1
  done := by
    intro X hP hw hK hc i pins s σ H E I hf st hg
    subst hP hw hK
    obtain ⟨⟨old, he⟩, hit, hne, hle⟩ := st
    have ei : i = z.cps.size := Nat.le_antisymm hle hg
    subst ei
    have D := Draws.text (prog := X.prog) (w := X.w) (A := X.A.in1) (I.ok.hd hc) it z tk
    obtain ⟨f0, f1, f2, f3, f4, f5⟩ := hf it (by simp)
    exact wpAny_pyNext_enum_endD D he hit fun h2 eb => ⟨rfl, I.turned (t' := s.toks) (fun b o hb q => eb b o hb q) f0 f1 f3 f4 f5⟩
  self := by
    rintro A i s Q E ⟨⟨_, he⟩, _⟩ h
    exact wpAny_pyIter_enum he h
def iEnumS (ta : TA) : TI := fun σ H R => ta σ H fun vs G => ∃ z, vs = [.str z] ∧ R (ItS z) G
theorem pi_enumS {X : Cx} {e : Expr} {ta : TA} {p pos tpos : Pos} {elts : List Expr} {kk : Nat} (hg : Gl X "enumerate") (hm : X.mg "enumerate" = none) (ha : PA X [e] ta)
    (hs : starEach [e] X.env = [(false, eval e X.env)] := by rfl) : PI X (.Tuple elts kk tpos) (.Call (.Name "enumerate" p) [e] [] pos) (iEnumS ta) := by
  refine ⟨fun pins s σ H R I h => ?_⟩
  refine Call_ (ld_blt I hg hm boot_enumerate (PyProof.Rows.callWith_type1 (thn (ha.run pos pins s σ H _ I h) ?_) hs rfl))
  rintro us s1 ⟨vs, G, I1, r1, z, rfl, q⟩
  cases r1 with
  | cons r rr =>
    cases rr
    obtain ⟨tk, rfl⟩ := r
    refine call_enumerate_str fun h2 he hit hsz hk => wpAny_pyIter_enum he ?_
    have I2 : Inv X pins σ G { s1 with heap := h2 } := I1.kept (t' := s1.toks) hk
    refine ⟨s1.heap.objs.size + 1, [s1.heap.objs.size + 1, s1.heap.objs.size], _, _, G, rfl, I2, turn_enumS z tk (s1.heap.objs.size + 1) s1.heap.objs.size, ⟨⟨.none, he⟩, hit, Nat.succ_ne_self _, Nat.zero_le _⟩, fun b hb => ?_, q⟩
    have le : s1.heap.objs.size ≤ b := by
      rcases (show b = s1.heap.objs.size + 1 ∨ b = s1.heap.objs.size by simpa using hb) with y | y
      · rw [y]; exact Nat.le_succ _
      · rw [y]; exact Nat.le_refl _
    exact I1.fpOk le (I1.hok.fresh le)
/-- the loop: an invariant over the turn's number; the pair is new -/
theorem for_enumS {K : PySem.W.Frag} {z : Str} {i j : Nat} {tb : TS} {D : Ends} {σ : L2.St} {H : Hp} (Pv : Nat → L2.St → Hp → Prop) (h0 : Pv 0 σ H)
    (hs : ∀ n c σ2 H2 H3, z.cps[n]? = some c → Pv n σ2 H2 → Ex H2 H3 → tb { D with nx := Pv (n + 1), ct := Pv (n + 1), bk := D.nx } ((σ2.set i (some (.int (n : Int)))).set j (some (.str ⟨#[c]⟩))) H3)
    (hd : ∀ σ2 H2, Pv z.cps.size σ2 H2 → D.nx σ2 H2) :
    ∃ W : Nat → Nat → L2.St → Hp → Prop, (∃ m, W 0 m σ H) ∧ ∀ n m σ2 H2, W n m σ2 H2 →
      ((ItS z).stop n H2 ∧ D.nx σ2 H2) ∨ ((ItS z).go n H2 ∧ ∃ N : L2.St → Hp → Prop, (∀ σ3 H3, N σ3 H3 → ∃ m2, m2 < m ∧ W (n + 1) m2 σ3 H3) ∧
        ∀ x H3, (ItS z).yld n H2 x H3 → gTup K 2 (gCons (gName i) (gCons (gName j) gNil)) x σ2 H3 fun σ4 H4 => tb { D with nx := N, ct := N, bk := D.nx } σ4 H4) := by
  refine ⟨fun n m σ2 H2 => m = z.cps.size - n ∧ n ≤ z.cps.size ∧ Pv n σ2 H2, ⟨_, rfl, Nat.zero_le _, h0⟩, ?_⟩
  rintro n m σ2 H2 ⟨rfl, hn, p⟩
  by_cases lt : n < z.cps.size
  · refine .inr ⟨lt, Pv (n + 1), fun σ3 H3 q => ⟨z.cps.size - (n + 1), by omega, rfl, lt, q⟩, ?_⟩
    rintro x H3 ⟨T, c, rfl, hT, hc, rfl⟩
    exact ⟨T, _, rfl, SqT.of upd_same, rfl, _, _, rfl, _, _, rfl, rfl, hs n c σ2 H2 _ hc p (Evl.Ex.new hT)⟩
  · have e : n = z.cps.size := by omega
    subst e
    exact .inl ⟨Nat.le_refl _, hd σ2 H2 p⟩
end Lr

namespace Lr
open PySem L2
def kindD : PyData → String
  | .none => "NoneType"
  | .bool _ => "bool"
  | .int _ => "int"
  | .str _ => "str"
  | .list _ => "list"
  | .tuple _ => "tuple"
  | .dict _ => "dict"
theorem ty_of {K : PySem.W.Frag} {H : Hp} {v : V} {d : PyData} (h : Dv H v d) : TyX K H v (.type (kindD d)) := by
  cases h with
  | non => exact .base .non
  | bl b => exact .base (.bl b)
  | int i => exact .base (.int i)
  | str x => exact .base (.str x)
  | lst h t => exact .base (.lst h)
  | tup h t => exact .base (.tup h)
  | tuf h t => exact .fTuple h
  | dic h t => exact .base (.dK h)
/-- what isinstance(d, T) answers -/
def isiD (T : String) (d : PyData) : Bool := kindD d == T || (T == "int" && kindD d == "bool")
theorem kit_all : ∀ a ∈ ["NoneType", "bool", "int", "str", "list", "tuple", "dict"], ∀ T ∈ ["str", "int", "bool", "tuple", "list", "dict"], kitB a T = some (a == T || (T == "int" && a == "bool")) := by
  decide +kernel
theorem kind_in (d : PyData) : kindD d ∈ ["NoneType", "bool", "int", "str", "list", "tuple", "dict"] := by
  cases d <;> simp [kindD]
theorem kit_D {K : PySem.W.Frag} (T : String) (d : PyData) (hT : T ∈ ["str", "int", "bool", "tuple", "list", "dict"] := by decide) : PySem.W.kitOne K (.type (kindD d)) (.type T) = some (isiD T d) := kit_ty (kit_all _ (kind_in d) T hT)
theorem isi_at {K : PySem.W.Frag} {H : Hp} {v : V} {d : PyData} {Q : VK} (T : String) (hT : T ∈ ["str", "int", "bool", "tuple", "list", "dict"]) (h : Dv H v d) (q : Q (.bl (isiD T d)) H) : rIsi K [v, .ty T] H Q :=
  ⟨v, .ty T, _, _, _, rfl, .ty T, ty_of h, kit_ty (kit_all _ (kind_in d) T hT), q⟩
end Lr

namespace Lr
open PySem L2 PySem.Spec PyProof.Rows
/-! ### for i, x in enumerate(a tuple) -/
theorem meets_enum1 {v : Value} {o : Obj} {Hh : Heap → Prop} (B : Begins v o Hh) :
    Meets (Builtin.«enumerate.__new__» ⟨[.type "enumerate", v], []⟩) (fun _ R s => Hh s.heap ∧
      R (.ok (.ret (.ref (s.heap.push o).objs.size)))
        { s with heap := (s.heap.push o).push { cls := .type "enumerate", data := .fields #[.none, .bool false, .ref s.heap.objs.size, rawInt 0, .none, .none] } }) :=
  .of_wp fun prog w A R s hh => by
    obtain ⟨hp, gs, dr, tk, os⟩ := s
    obtain ⟨h1, hR⟩ := hh
    have hsub := sub_enumerate
    have begin1 : ∀ {A2 : Around} {E : Value → Shared → Prop} {Q : Value → Shared → Prop}, Q (.ref hp.objs.size) ⟨hp.push o, gs, dr, tk, os⟩ → wpAny (model prog w) A2 (pyIter v) Q E ⟨hp, gs, dr, tk, os⟩ :=
      fun q => B.iter prog w _ _ ⟨hp, gs, dr, tk, os⟩ _ h1 q
    wp_walk using begin1
    refine wpAny_stack_any fun st => wpAny_pure ?_
    split
    · rename_i cc _ _ _ _ _
      cases (cc == Value.type "enumerate")
      all_goals
        wp_walk using begin1
        exact ⟨_, rfl, hR⟩
    · wp_walk using begin1
      exact ⟨_, rfl, hR⟩
section
variable {prog : Program} {w : World} {A : Around} {E : Value → Shared → Prop} {s : Shared}
theorem call_enum1 {v : Value} {o : Obj} {Hh : Heap → Prop} {Q : Value → Shared → Prop} (B : Begins v o Hh) (h1 : Hh s.heap)
    (k : ∀ h2, IsEnum h2 (s.heap.objs.size + 1) s.heap.objs.size 0 .none → h2.get? s.heap.objs.size = some o → (∀ b ob, s.heap.get? b = some ob → h2.get? b = some ob) → Q (.ref (s.heap.objs.size + 1)) { s with heap := h2 }) :
    wpAny (model prog w) A (call (.type "enumerate") [v]) Q E s := by
  refine callType_new F.called_enumerate (by decide) (F.typeCall_enumerate_1 _) (F.newCall_enumerate_1 _) (fun obj => F.args_object_init_2 obj _) F.entry_enumerate_new (meets_enum1 B) ⟨h1, ?_⟩
  have sz : (s.heap.push o).objs.size = s.heap.objs.size + 1 := Heap.size_push ..
  show _ ∧ _
  rw [sz]
  have en : IsEnum ((s.heap.push o).push { cls := .type "enumerate", data := .fields #[.none, .bool false, .ref s.heap.objs.size, rawInt 0, .none, .none] }) (s.heap.objs.size + 1) s.heap.objs.size 0 .none := by
    have q := Heap.get?_push_size (s.heap.push o) (o := { cls := .type "enumerate", data := .fields #[.none, .bool false, .ref s.heap.objs.size, rawInt 0, .none, .none] }) rfl
    rw [sz] at q
    exact q
  exact ⟨⟨_, en, rfl⟩, k _ en (Heap.get?_push_of_some _ (Heap.get?_push_size _ B.free)) fun b ob x => Heap.get?_push_of_some _ (Heap.get?_push_of_some _ x)⟩
end
def ItT (a : Addr) (xs : List V) : It :=
  ⟨fun i H => Tu H a xs ∧ i < xs.length, fun i H v G => ∃ T x, v = .ref T ∧ H T = none ∧ xs[i]? = some x ∧ G = upd H T (.tup [.int (i : Nat), x]), fun i H => Tu H a xs ∧ xs.length ≤ i⟩
theorem turn_enumT {P : Program} {w : World} {K : PySem.W.Frag} {elts : List Expr} {kk : Nat} {tpos : Pos} (a : Addr) (xs : List V) (e it : Addr) :
    Turn P w K (.Tuple elts kk tpos) (ItT a xs) [e, it] e (fun i h => (∃ old, IsEnum h e it ((i : Nat) : Int) old) ∧ h.IsTupleIter it a i ∧ e ≠ it ∧ i ≤ xs.length) where
  mem := by simp
  obj := by
    rintro i h ⟨⟨old, he⟩, ⟨o, ho, hc, hd⟩, _⟩ b hb
    rcases (show b = e ∨ b = it by simpa using hb) with q | q
    · subst q
      exact ⟨_, he, fun v q => nomatch q⟩
    · subst q
      exact ⟨o, ho, fun v q => by rw [hd] at q; cases q⟩
  keep := by
    rintro i h h2 ⟨⟨old, he⟩, ⟨o, ho, r⟩, hne⟩ k
    exact ⟨⟨old, k e (by simp) _ he⟩, ⟨o, k it (by simp) _ ho, r⟩, hne⟩
  item := by
    intro X hP hw hK hc i pins s σ H E I hf st hg
    subst hP hw hK
    obtain ⟨⟨old, he⟩, hit, hne, hle⟩ := st
    obtain ⟨hat, hlt⟩ := hg
    have eLt : e < s.heap.objs.size := Heap.lt_size he
    have iLt : it < s.heap.objs.size := by obtain ⟨_, q, _⟩ := hit; exact Heap.lt_size q
    obtain ⟨its, rv, ⟨o, ho, hcls, n, hdat⟩, _⟩ := I.tuple (Tu.sq hat)
    have nai : a ≠ it := by
      intro z
      have q := (hf it (by simp)).1
      obtain ⟨oo, qq, _⟩ := hat.some
      rw [← z, qq] at q
      cases q
    have hlen : its.length = xs.length := rv.length.symm
    have D := Draws.tuple (prog := X.prog) (w := X.w) (A := X.A.in1) (I.ok.hd hc) it a nai its.toArray
    have nea : e ≠ a := by
      intro z
      have q := (hf e (by simp)).1
      obtain ⟨oo, qq, _⟩ := hat.some
      rw [z, qq] at q
      cases q
    refine wpAny_pyNext_enum_itemD D he ⟨hit, o, ho, hcls, n, hdat⟩ (by simpa [hlen] using hlt) hne (by simp [hne, nea]) fun y h2 t2 hy out hit2 hT hsz hk => ?_
    obtain ⟨x, hx⟩ : ∃ x, xs[i]? = some x := ⟨xs[i], List.getElem?_eq_getElem hlt⟩
    obtain ⟨u, hu, ru⟩ := rv.get hx
    have hyu : y = u := by
      have h3 : its[i]? = some y := by simpa using hy
      rw [hu] at h3
      exact (Option.some.inj h3).symm
    subst hyu
    refine ⟨_, rfl, wpAny_letOwnedTupleGo_enum (s := { s with heap := h2, toks := t2 + 1 }) out fun h3 he3 sb => ?_⟩
    have hT3 : h3.get? s.heap.objs.size = some { cls := .type "tuple", data := .seq #[.int i t2, y] } := (sb.2 _ (Nat.ne_of_gt eLt)).trans hT
    have new : ObjOk X.prog X.w (upd H s.heap.objs.size (.tup [.int (i : Nat), x])) h3 s.heap.objs.size (.tup [.int (i : Nat), x]) :=
      ⟨(by show 2 ≤ sizeLine; decide), [.int i t2, y], .cons ⟨_, rfl⟩ (.cons ru .nil), ⟨_, hT3, rfl, _, rfl⟩⟩
    have kept : ∀ b ob, b ∉ [e, it] → s.heap.get? b = some ob → h3.get? b = some ob := fun b ob hb q =>
      (sb.2 b (fun y => hb (by simp [y]))).trans (hk b ob (fun y => hb (by simp [y])) (fun y => hb (by simp [y])) q)
    have I3 : Inv X pins σ (upd H s.heap.objs.size (.tup [.int (i : Nat), x])) { s with heap := h3, toks := t2 + 1 } := I.turnedNew (ch := [e, it]) kept hf (Nat.le_refl _) new
    refine ⟨.ref s.heap.objs.size, _, I3, rfl, ⟨_, x, rfl, I.hok.fresh (Nat.le_refl _), hx, rfl⟩, ⟨⟨y, ?_⟩, ?_, hne, hlt⟩, fun b hb => ?_⟩
    · have e1 : ((i + 1 : Nat) : Int) = (i : Int) + 1 := by omega
      rw [e1]
      exact he3
    · obtain ⟨⟨o2, ho2, r2⟩, _⟩ := hit2
      exact ⟨o2, (sb.2 it (Ne.symm hne)).trans ho2, r2⟩
    · have lt : b < s.heap.objs.size := by
        rcases (show b = e ∨ b = it by simpa using hb) with q | q <;> (rw [q]; assumption)
      rw [upd_ne (Nat.ne_of_lt lt)]
      exact (hf b hb).1
  done := by
    intro X hP hw hK hc i pins s σ H E I hf st hg
    subst hP hw hK
    obtain ⟨⟨old, he⟩, hit, hne, hle⟩ := st
    obtain ⟨hat, hge⟩ := hg
    have ei : i = xs.length := Nat.le_antisymm hle hge
    obtain ⟨its, rv, ⟨o, ho, hcls, n, hdat⟩, _⟩ := I.tuple (Tu.sq hat)
    have nai : a ≠ it := by
      intro z
      have q := (hf it (by simp)).1
      obtain ⟨oo, qq, _⟩ := hat.some
      rw [← z, qq] at q
      cases q
    have hlen : its.length = xs.length := rv.length.symm
    have D := Draws.tuple (prog := X.prog) (w := X.w) (A := X.A.in1) (I.ok.hd hc) it a nai its.toArray
    obtain ⟨f0, f1, f2, f3, f4, f5⟩ := hf it (by simp)
    have e2 : its.toArray.size = i := by simp [hlen, ei]
    exact wpAny_pyNext_enum_endD D he (by rw [e2]; exact ⟨hit, o, ho, hcls, n, hdat⟩) fun h2 eb => ⟨rfl, I.turned (t' := s.toks) (fun b o hb q => eb b o hb q) f0 f1 f3 f4 f5⟩
  self := by
    rintro A i s Q E ⟨⟨_, he⟩, _⟩ h
    exact wpAny_pyIter_enum he h
def iEnumT (ta : TA) : TI := fun σ H R => ta σ H fun vs G => ∃ a xs, vs = [.ref a] ∧ Tu G a xs ∧ R (ItT a xs) G
theorem pi_enumT {X : Cx} {e : Expr} {ta : TA} {p pos tpos : Pos} {elts : List Expr} {kk : Nat} (hg : Gl X "enumerate") (hm : X.mg "enumerate" = none) (ha : PA X [e] ta)
    (hs : starEach [e] X.env = [(false, eval e X.env)] := by rfl) : PI X (.Tuple elts kk tpos) (.Call (.Name "enumerate" p) [e] [] pos) (iEnumT ta) := by
  refine ⟨fun pins s σ H R I h => ?_⟩
  refine Call_ (ld_blt I hg hm boot_enumerate (PyProof.Rows.callWith_type1 (thn (ha.run pos pins s σ H _ I h) ?_) hs rfl))
  rintro us s1 ⟨vs, G, I1, r1, a, xs, rfl, hat, q⟩
  cases r1 with
  | cons r rr =>
    cases rr
    cases r
    obtain ⟨its, rv, ⟨o, ho, hcls, n, hdat⟩, _⟩ := I1.tuple (Tu.sq hat)
    refine call_enum1 (begins_tuple a its.toArray) ⟨o, ho, hcls, n, hdat⟩ fun h2 he hit hk => wpAny_pyIter_enum he ?_
    have I2 : Inv X pins σ G { s1 with heap := h2 } := I1.kept (t' := s1.toks) hk
    refine ⟨s1.heap.objs.size + 1, [s1.heap.objs.size + 1, s1.heap.objs.size], _, _, G, rfl, I2, turn_enumT a xs (s1.heap.objs.size + 1) s1.heap.objs.size, ⟨⟨.none, he⟩, ⟨_, hit, rfl, rfl⟩, Nat.succ_ne_self _, Nat.zero_le _⟩, fun b hb => ?_, q⟩
    have le : s1.heap.objs.size ≤ b := by
      rcases (show b = s1.heap.objs.size + 1 ∨ b = s1.heap.objs.size by simpa using hb) with y | y
      · rw [y]; exact Nat.le_succ _
      · rw [y]; exact Nat.le_refl _
    exact I1.fpOk le (I1.hok.fresh le)
/-- the loop: an invariant over the turn's number; the pair is new -/
theorem for_enumT {K : PySem.W.Frag} {a : Addr} {xs : List V} {i j : Nat} {tb : TS} {D : Ends} {σ : L2.St} {H : Hp} (Pv : Nat → L2.St → Hp → Prop) (h0 : Pv 0 σ H) (ht : ∀ n σ2 H2, Pv n σ2 H2 → Tu H2 a xs)
    (hs : ∀ n x σ2 H2 H3, xs[n]? = some x → Pv n σ2 H2 → Ex H2 H3 → tb { D with nx := Pv (n + 1), ct := Pv (n + 1), bk := D.nx } ((σ2.set i (some (.int (n : Int)))).set j (some x)) H3)
    (hd : ∀ σ2 H2, Pv xs.length σ2 H2 → D.nx σ2 H2) :
    ∃ W : Nat → Nat → L2.St → Hp → Prop, (∃ m, W 0 m σ H) ∧ ∀ n m σ2 H2, W n m σ2 H2 →
      ((ItT a xs).stop n H2 ∧ D.nx σ2 H2) ∨ ((ItT a xs).go n H2 ∧ ∃ N : L2.St → Hp → Prop, (∀ σ3 H3, N σ3 H3 → ∃ m2, m2 < m ∧ W (n + 1) m2 σ3 H3) ∧
        ∀ x H3, (ItT a xs).yld n H2 x H3 → gTup K 2 (gCons (gName i) (gCons (gName j) gNil)) x σ2 H3 fun σ4 H4 => tb { D with nx := N, ct := N, bk := D.nx } σ4 H4) := by
  refine ⟨fun n m σ2 H2 => m = xs.length - n ∧ n ≤ xs.length ∧ Pv n σ2 H2, ⟨_, rfl, Nat.zero_le _, h0⟩, ?_⟩
  rintro n m σ2 H2 ⟨rfl, hn, p⟩
  by_cases lt : n < xs.length
  · refine .inr ⟨⟨ht n σ2 H2 p, lt⟩, Pv (n + 1), fun σ3 H3 q => ⟨xs.length - (n + 1), by omega, rfl, lt, q⟩, ?_⟩
    rintro y H3 ⟨T, x, rfl, hT, hx, rfl⟩
    exact ⟨T, _, rfl, SqT.of upd_same, rfl, _, _, rfl, _, _, rfl, rfl, hs n x σ2 H2 _ hx p (Evl.Ex.new hT)⟩
  · have e : n = xs.length := by omega
    subst e
    exact .inl ⟨⟨ht _ σ2 H2 p, Nat.le_refl _⟩, hd σ2 H2 p⟩
/-! ### len(set(a tuple of ints)) -/
theorem perm_in : ∀ {ks ns : List Int}, ks.Nodup → (∀ k ∈ ks, k ∈ ns) → ns.length ≤ ks.length → ks.Perm ns
  | [], ns, _, _, hl => by
    have : ns = [] := List.eq_nil_of_length_eq_zero (by simpa using hl)
    subst this
    exact .nil
  | k :: r, ns, nd, sub, hl => by
    rw [List.nodup_cons] at nd
    have hk : k ∈ ns := sub k (by simp)
    have p := List.perm_cons_erase hk
    have hlen : ns.length = (ns.erase k).length + 1 := by
      have := p.length_eq
      simpa using this
    have ih := perm_in (ks := r) (ns := ns.erase k) nd.2 (fun x hx => by
      have hne : x ≠ k := fun z => nd.1 (z ▸ hx)
      exact (List.mem_erase_of_ne hne).mpr (sub x (by simp [hx]))) (by simp at hl; omega)
    exact (ih.cons k).trans p.symm
theorem card_nodup {ks ns : List Int} (nd : ks.Nodup) (h : ∀ k, k ∈ ns ↔ k ∈ ks) : ks.length = ns.length ↔ ns.Nodup := by
  constructor
  · intro e
    exact (perm_in nd (fun k hk => (h k).mpr hk) (by omega)).nodup_iff.mp nd
  · intro nd2
    have p := perm_in (ks := ks) (ns := ns) nd (fun k hk => (h k).mpr hk)
    by_cases hl : ns.length ≤ ks.length
    · exact (p hl).length_eq
    · exact ((perm_in (ks := ns) (ns := ks) nd2 (fun k hk => (h k).mp hk) (by omega)).length_eq).symm
def tLenSetT (K : PySem.W.Frag) (ta : TE) : TE := fun σ H Q => ta σ H fun x H1 => ∃ (l : Addr) (ns : List Int), x = .ref l ∧ SqT K H1 l (ns.map V.int) ∧ ns.length ≤ 4000 ∧ ∀ m : Nat, (m = ns.length ↔ ns.Nodup) → Q (.int m) H1
theorem pe_lenSetT {X : Cx} {K : PySem.W.Frag} {a : Expr} {ta : TE} {p p2 q pos : Pos} (hK : X.K = K) (hg : Gl X "len") (hm : X.mg "len" = none) (hg2 : Gl X "set") (hm2 : X.mg "set" = none) (ha : PE X a ta) (hc : X.calm = true := by rfl)
    (na : starEach [a] X.env = (false, eval a X.env) :: starEach [] X.env := by rfl) : PE X (.Call (.Name "len" p) [.Call (.Name "set" p2) [a] [] q] [] pos) (tLenSetT K ta) := by
  subst hK
  refine ⟨fun pins s σ H Q I h => Call_ (ld_blt I hg hm bt_len ?_)⟩
  refine PyProof.Rows.callWith_builtin1 (PyProof.Rows.args_cons ?_ rfl) rfl rfl
  refine Call_ (ld_blt I hg2 hm2 bt_set ?_)
  refine PyProof.Rows.callWith_type1 (PyProof.Rows.args_cons (thn (ha.run pins s σ H _ I h) ?_) na) na rfl
  rintro v s1 ⟨x, H1, I1, r1, l, ns, rfl, hq, hl, k⟩
  refine PyProof.Rows.args_nil ?_
  cases r1
  obtain ⟨its, rv, ⟨o, ho, hcls, n, hdat⟩, hz⟩ := I1.tuple hq
  refine call_set_tupI ns (I1.ok.hd hc) ⟨o, ho, hcls, n, hdat⟩ (by simpa using rv.ints) (by unfold scanBound; omega) ?_
  rintro h2 tk c ⟨o2, es, ep, t, ho2, hex, hd2, _, nd, mem, _, hf, hn, _⟩ hcn hk
  refine PyProof.Rows.args_nil ?_
  have I2 : Inv X pins σ H1 { s1 with heap := h2, toks := tk } := I1.kept hk
  have e1 : (es.toList.map keyOf).length = c := by rw [List.length_map, Array.length_toList]; exact hn
  have card : c = ns.length ↔ ns.Nodup := by
    rw [← e1]
    exact card_nodup nd fun k => by rw [← mem k]; simp
  refine call_len_set ho2 hex hd2 hf (by rw [hn]; omega) ⟨.int c, H1, I2.tok _, ⟨_, by rw [hn]⟩, k c card⟩
/-! ### sorted(a tuple of ints) -/
def rSortT (K : PySem.W.Frag) : List V → Hp → VK → Prop := fun vs H Q => ∃ (a : Addr) (ns : List Int), vs = [.ref a] ∧ SqT K H a (ns.map V.int) ∧ ns.length < 64 ∧ ∀ (ys : List Int) (p : Addr), ys.Perm ns → ys.Pairwise (· ≤ ·) → H p = none → Q (.ref p) (upd H p (.lst (ys.map V.int)))
theorem cr_sortT {X : Cx} {K : PySem.W.Frag} (hK : X.K = K) : CallR X (.builtin "sorted") (rSortT K) := by
  subst hK
  intro pins s σ H xs us Q I r h
  obtain ⟨a, ns, rfl, hs, h64, k⟩ := h
  obtain ⟨u, rfl, rx⟩ := vals1 r
  cases rx
  obtain ⟨its, rv, ⟨o, ho, hcls, n, hdat⟩, hz⟩ := I.tuple hs
  have hi : IntsAre its ns := rv.ints
  have hil : its.length = ns.length := hi.length
  refine Calls.call_function_entry PyProof.Rows.kind_sorted PyProof.Rows.plain_sorted PyProof.Rows.entry_sorted (PyProof.Rows.args_sorted1 _) ?_
  unfold Builtin.«sorted»
  refine wpAny_bind (m := checkCount "sorted" 1 1 _) (wpAny_pure ?_)
  have szi : its.toArray.size ≤ sizeLine := by rw [List.size_toArray, hil]; exact Evl.sz_of (by omega)
  refine wpAny_bind (wpAny_collect_seq (A := X.A.in1) a (.inr rfl) ho hcls hdat (fun h2 hk => ?_) szi)
  have I1 : Inv X pins σ H { s with heap := h2 } := I.kept (t' := s.toks) hk
  refine wpAny_bind (wpAny_newList ?_ (by rw [List.toList_toArray, hil]; exact Evl.sz_of (by omega)))
  rw [List.toList_toArray]
  have hoL : (h2.push (seqObj "list" its.toArray 0)).get? h2.objs.size = some (seqObj "list" its.toArray 0) := Heap.get?_push_size _ rfl
  show wpAny _ _ _ _ _ { s with heap := h2.push (seqObj "list" its.toArray 0) }
  refine wpAny_bind (wpAny_holding (wpAny_call_entry PyProof.Rows.slot_list_sort ⟨_, hoL, rfl⟩ PyProof.Rows.entry_list_sort
    (PyProof.Rows.list_sort_tree (s := { s with heap := h2.push (seqObj "list" its.toArray 0) }) hoL hi (by rw [hil]; exact h64) fun out ys g1 g2 g3 => ⟨_, rfl, ?_⟩) (PyProof.Rows.args_list_sort _)))
  obtain ⟨e2, he2⟩ := PyProof.Rows.sortedHeap_at (vs := its) (out := out) hoL
  have hlen : (ys.map V.int).length ≤ sizeLine := by
    rw [List.length_map, g2.length_eq]
    exact Evl.sz_of (by omega)
  refine wpAny_pure ⟨_, rfl, .ref h2.objs.size, upd H h2.objs.size (.lst (ys.map V.int)), I1.laid (t' := s.toks) (fun b u e => ?_) (Nat.le_refl _)
    (show ObjOk X.prog X.w _ _ _ (.lst (ys.map V.int)) from ⟨hlen, out.toList, e2, vals_of_ints g1, by rw [Array.toArray_toList]; exact he2⟩), rfl, k ys _ g2 g3 (I1.hok.fresh (Nat.le_refl _))⟩
  have lt : b < h2.objs.size := Heap.lt_size e
  rw [PyProof.Rows.sortedHeap_old (Nat.ne_of_lt lt) (by rw [size_push']; exact Nat.lt_succ_of_lt lt)]
  exact Heap.get?_push_of_some _ e
/-! ### all(a list of truths) -/
def rAllL (K : PySem.W.Frag) : List V → Hp → VK → Prop := fun vs H Q => ∃ (a : Addr) (bs : List Bool), vs = [V.ref a] ∧ SqL K H a (bs.map V.bl) ∧ Q (.bl (bs.all id)) H
theorem k_all {X : Cx} {K : PySem.W.Frag} (hK : X.K = K) (hc : X.calm = true) : CallR X (.builtin "all") (rAllL K) := by
  subst hK
  exact cr_all hc
/-! ### a tuple backwards: some tuple of its items -/
theorem vals_pick {xs : List V} {its : List Value} (r : Vals xs its) (f : Nat → Nat) : ∀ l : List Nat, Vals (l.filterMap fun k => xs[f k]?) (l.filterMap fun k => its[f k]?)
  | [] => .nil
  | k :: l => by
    have rest := vals_pick r f l
    cases e : xs[f k]? with
    | none =>
      have e2 := r.none_of e
      simp only [List.filterMap_cons, e, e2]
      exact rest
    | some x =>
      obtain ⟨u, e2, ru⟩ := r.get e
      simp only [List.filterMap_cons, e, e2]
      exact .cons ru rest
section
variable {prog : Program} {w : World} {A : Around} {E : Value → Shared → Prop} {s : Shared}
theorem back_applied {sl : Addr} {vl vu vs : Value} {n : Nat} {Q : Int × Int × Nat → Shared → Prop} (hs : s.heap.IsSliceOf sl vl vu vs) (pl : IsPart vl none) (pu : IsPart vu none) (ps : IsPart vs (some (-1)))
    (h : ∀ lo k, k ≤ n → Q (lo, -1, k) s) : wpAny (model prog w) A (Builtin.Slice.sliceApplied (.ref sl) (pure (n : Int))) Q E s := by
  obtain ⟨os, hos, hcs, hds⟩ := id hs
  unfold Builtin.Slice.sliceApplied Builtin.Slice.sliceFields
  refine wpAny_bind (wpAny_bind (wpAny_field hos hds (x := vl) rfl (wpAny_bind (wpAny_field hos hds (x := vu) rfl (wpAny_bind (wpAny_field hos hds (x := vs) rfl (wpAny_pure ?_)))))))
  refine wpAny_bind (HT.slicePart_ ps ?_)
  show wpAny _ _ (if ((-1 : Int) == 0) = true then _ else _) _ _ s
  rw [if_neg (by decide)]
  refine wpAny_bind (HT.slicePart_ pl (wpAny_bind (HT.slicePart_ pu (wpAny_bind (wpAny_pure ?_)))))
  show wpAny _ _ (match Builtin.Slice.sliceAdjust none none (-1) (n : Int) with | (lo, hi) => pure (lo, (-1 : Int), Builtin.Slice.slicePlaces lo hi (-1))) _ _ s
  have e1 : Builtin.Slice.sliceAdjust none none (-1) (n : Int) = ((n : Int) - 1, -1) := rfl
  rw [e1]
  refine wpAny_pure (h _ _ ?_)
  unfold Builtin.Slice.slicePlaces
  rw [if_neg (by decide)]
  split
  · have e2 : ((n : Int) - 1 - -1 - 1) / (- -1) = (n : Int) - 1 := by
      rw [show (- -1 : Int) = 1 by decide, Int.ediv_one]
      omega
    rw [e2]
    omega
  · simp
theorem getItem_back {t sl : Addr} {items : Array Value} {vl vu vs : Value} {Q : Value → Shared → Prop} (ht : IsTup s.heap t items) (hs : s.heap.IsSliceOf sl vl vu vs) (pl : IsPart vl none) (pu : IsPart vu none) (ps : IsPart vs (some (-1))) (hsz : items.size ≤ sizeLine)
    (h : ∀ (lo : Int) (k : Nat), k ≤ items.size → Q (.ref s.heap.objs.size) { s with heap := s.heap.push { cls := .type "tuple", data := .seq ((List.range k).filterMap fun (j : Nat) => items[(lo + (j : Int) * -1).toNat]?).toArray } }) :
    wpAny (model prog w) A (getItem (.ref t) (.ref sl)) Q E s := by
  obtain ⟨os, hos, hcs, hds⟩ := id hs
  have hTs : s.TypeIs (.ref sl) "slice" := ⟨os, hos, hcs⟩
  unfold getItem
  try with_reducible refine wpAny_holding ?_
  first | refine wpAny_bind (wpAny_pure ?_) | skip
  refine wpAny_bind (wpAny_sequenceKey ht.typeIs (by decide) ?_)
  refine wpAny_bind (wpAny_callSpecial?_slot (name := Str.ofString "__getitem__") ht.typeIs PyProof.Rows.slot_tuple_getitem
    (wpAny_call_entry PyProof.Rows.slot_tuple_getitem ht.typeIs entry_tuple_getitem ?_ (args_tuple_getitem _ _)))
  show wpAny _ _ (Builtin.Tuple.tupleItemsOf (.ref t) >>= _) _ _ s
  refine wpAny_bind (tupleItemsOf_ ht (wpAny_bind (wpAny_typeOf hTs ?_)))
  rw [if_pos (by decide)]
  refine wpAny_bind (back_applied hs pl pu ps fun lo k hk => ?_)
  have ok : sizeOk (.seq ((List.range k).filterMap fun (j : Nat) => items[(lo + (j : Int) * -1).toNat]?).toArray) := by
    show ((List.range k).filterMap fun (j : Nat) => items[(lo + (j : Int) * -1).toNat]?).toArray.size ≤ sizeLine
    rw [List.size_toArray]
    have := List.length_filterMap_le (fun (j : Nat) => items[(lo + (j : Int) * -1).toNat]?) (List.range k)
    rw [List.length_range] at this
    omega
  have no : ¬ ((lo == 0 && (-1 : Int) == 1 && k == items.size) = true) := by simp
  show wpAny _ _ (if (lo == 0 && (-1 : Int) == 1 && k == items.size) = true then _ else _) _ _ s
  rw [if_neg no]
  have q := h lo k hk
  first
    | exact wpAny_bind (m := Builtin.Tuple.tupleExact _) (wpAny_newObj_type (wpAny_pure ⟨_, rfl, wpAny_pure q⟩) ok)
    | exact wpAny_bind (m := Builtin.Tuple.tupleExact _) (wpAny_newObj_type (wpAny_bind (wpAny_pure (wpAny_pure ⟨_, rfl, wpAny_pure q⟩))) ok)
    | exact wpAny_bind (wpAny_bind (m := Builtin.Tuple.tupleExact _) (wpAny_newObj_type (wpAny_pure (wpAny_pure ⟨_, rfl, wpAny_pure q⟩)) ok))
    | exact wpAny_bind (wpAny_bind (m := Builtin.Tuple.tupleExact _) (wpAny_newObj_type (wpAny_pure ⟨_, rfl, wpAny_pure q⟩) ok))
end
def tRevT (te : TE) : TE := fun σ H Q => te σ H fun x H1 => ∃ (a : Addr) (xs : List V), x = .ref a ∧ Tu H1 a xs ∧ ∀ (f : Nat → Nat) (k : Nat) p, k ≤ xs.length → H1 p = none → Q (.ref p) (upd H1 p (.tup ((List.range k).filterMap fun j => xs[f j]?)))
theorem pe_revT {X : Cx} {e : Expr} {te : TE} {k : Nat} {p1 p2 p3 pos : Pos} (he : PE X e te) : PE X (.Subscript e (.Slice none none (some (.UnaryOp .USub (.Constant (.int 1) k p1) p2)) p3) pos) (tRevT te) := by
  refine ⟨fun pins s σ H Q I h => Subscript_ (thn (he.run pins s σ H _ I h) ?_)⟩
  rintro v s1 ⟨x, H1, I1, r1, a, xs, rfl, hx, q⟩
  cases r1
  have step : PO X (some (.UnaryOp .USub (.Constant (.int 1) k p1) p2)) (tPart (tUn (rU fun i => .int (-i)) (tC (.int 1)))) := po_some (pe_un un_neg pe_int)
  refine wpAny_Slice (thn (po_none.run pins s1 σ H1 (fun o G => o = none ∧ G = H1) I1 ⟨rfl, rfl⟩) ?_)
  rintro vl s2 ⟨l, H2, I2, pl, rfl, rfl⟩
  refine thn (po_none.run pins s2 σ H2 (fun o G => o = none ∧ G = H2) I2 ⟨rfl, rfl⟩) ?_
  rintro vu s3 ⟨u, H3, I3, pu, rfl, rfl⟩
  refine thn (step.run pins s3 σ H3 (fun o G => o = some (-1) ∧ G = H3) I3 ⟨1, rfl, -1, rfl, rfl, rfl⟩) ?_
  rintro vs s4 ⟨o, H4, I4, ps, rfl, rfl⟩
  have I5 : Inv X pins σ H4 { s4 with heap := s4.heap.push { cls := .type "slice", data := .fields #[vl, vu, vs] } } := I4.kept (t' := s4.toks) fun b ob q => Heap.get?_push_of_some _ q
  obtain ⟨its, rv, ht, hz⟩ := I5.tuple (Tu.sq hx)
  have hlen : its.length = xs.length := rv.length.symm
  refine tail_any (ops := [.ref a, .ref s4.heap.objs.size]) ht.typeIs (PyProof.Rows.slot_tuple_getitem.lookup) ?_ (by with_unfolding_all rfl)
  refine getItem_back ht (Heap.IsSliceOf.new _ vl vu vs) pl pu ps (by rw [List.size_toArray, hlen]; exact hz) fun lo n hn => ?_
  have hn2 : n ≤ xs.length := by rw [List.size_toArray, hlen] at hn; exact hn
  have same : ((List.range n).filterMap fun (j : Nat) => its.toArray[(lo + (j : Int) * -1).toNat]?) = (List.range n).filterMap fun (j : Nat) => its[(lo + (j : Int) * -1).toNat]? := by
    congr 1
    funext j
    simp
  rw [same]
  have rv2 := vals_pick rv (fun j => (lo + (j : Int) * -1).toNat) (List.range n)
  have l2 : ((List.range n).filterMap fun (j : Nat) => xs[(lo + (j : Int) * -1).toNat]?).length ≤ sizeLine := by
    have := List.length_filterMap_le (fun (j : Nat) => xs[(lo + (j : Int) * -1).toNat]?) (List.range n)
    rw [List.length_range] at this
    omega
  exact ⟨.ref _, _, I5.laid (t' := s4.toks) (o := .tup ((List.range n).filterMap fun (j : Nat) => xs[(lo + (j : Int) * -1).toNat]?)) (fun b ob q => Heap.get?_push_of_some _ q) (Nat.le_refl _) ⟨l2, _, rv2, IsTup.new _ _⟩, rfl, q _ n _ hn2 (I5.hok.fresh (Nat.le_refl _))⟩
end Lr

namespace Lr
open PySem L2 PySem.SeqAt
/-! ### compared with [] or (), whatever the items are -/
def rNeNil (K : PySem.W.Frag) : R2 := fun x y H Q => ∃ a b xs, x = .ref a ∧ y = .ref b ∧ SqL K H a xs ∧ SqL K H b [] ∧ Q (.bl (decide (xs ≠ []))) H
def rEqNilT (K : PySem.W.Frag) : R2 := fun x y H Q => ∃ a b xs, x = .ref a ∧ y = .ref b ∧ SqT K H a xs ∧ SqT K H b [] ∧ Q (.bl (decide (xs = []))) H
theorem ko_neNil {X : Cx} {K : PySem.W.Frag} (h : X.K = K) (hu : X.A.units + 64 < cLine) : OpR X (compareOp .NotEq) (rNeNil K) := by
  subst h
  intro pins s σ H x y v u Q I rx ry h
  obtain ⟨a, b, xs, rfl, rfl, h1, h2, q⟩ := h
  cases rx
  cases ry
  obtain ⟨its, rv, ⟨o, n, ho, hc, _, hd⟩, _⟩ := I.list h1
  obtain ⟨its2, rv2, ⟨o2, n2, ho2, hc2, _, hd2⟩, _⟩ := I.list h2
  cases rv2
  have i1 : s.heap.IsList a its.toArray := ⟨o, ho, hc, n, hd⟩
  have i2 : s.heap.IsList b #[] := ⟨o2, ho2, hc2, n2, hd2⟩
  cases rv with
  | nil =>
    exact RcNeAt.lists (e := fun _ => true) i1 i2 rfl (by omega) (fun j h1 _ => absurd h1 (Nat.not_lt_zero j)) X.prog X.w _ _ ⟨.bl _, H, I, rfl, q⟩
  | cons r rv =>
    exact RcNeAt.lists_lengths i1 i2 (by simp) (by omega) X.prog X.w _ _ ⟨.bl _, H, I, rfl, q⟩
theorem ko_eqNilT {X : Cx} {K : PySem.W.Frag} (h : X.K = K) (hu : X.A.units + 64 < cLine) : OpR X (compareOp .Eq) (rEqNilT K) := by
  subst h
  intro pins s σ H x y v u Q I rx ry h
  obtain ⟨a, b, xs, rfl, rfl, h1, h2, q⟩ := h
  cases rx
  cases ry
  obtain ⟨its, rv, ⟨o, ho, hc, n, hd⟩, _⟩ := I.tuple h1
  obtain ⟨its2, rv2, ⟨o2, ho2, hc2, n2, hd2⟩, _⟩ := I.tuple h2
  cases rv2
  have i1 : s.heap.IsTuple a its.toArray := ⟨o, ho, hc, n, hd⟩
  have i2 : s.heap.IsTuple b #[] := ⟨o2, ho2, hc2, n2, hd2⟩
  have G := RcAt.tuples (A := X.A) (e := fun _ => true) i1 i2 (by omega) (fun j _ h2 => absurd h2 (Nat.not_lt_zero j))
  cases rv with
  | nil => exact G X.prog X.w _ _ ⟨.bl _, H, I, rfl, q⟩
  | cons r rv => exact G X.prog X.w _ _ ⟨.bl _, H, I, by simp; rfl, q⟩
end Lr

namespace Lr
open PySem L2 PySem.Spec PyProof.Rows
/-! ### repr of any data: where the table of modules stands in the base, nothing that is told of stands there -/
def HasSys (base : Heap) : Prop := ∃ o, base.get? sysModules = some o
section
variable {X : Cx} {pins : List (Addr × Obj)} {σ : L2.St} {H : Hp} {s : Shared}
theorem sys_ne (hs : HasSys X.base) (I : Inv X pins σ H s) {a : Addr} {o : HO} (h : H a = some o) : sysModules ≠ a := by
  rintro rfl
  obtain ⟨o', e⟩ := hs
  have z := (I.bs _ _ e).2
  rw [h] at z
  cases z
mutual
theorem Dv.readsS (hs : HasSys X.base) (I : Inv X pins σ H s) : ∀ {v : V} {d : PyData} {u : Value}, Dv H v d → RelV v u → ∃ as, Reads s.heap u d as ∧ sysModules ∉ as
  | _, _, _, .non, r => by cases r; exact ⟨[], .none, List.not_mem_nil⟩
  | _, _, _, .bl b, r => by cases r; exact ⟨[], .bool b, List.not_mem_nil⟩
  | _, _, _, .int i, r => by obtain ⟨t, rfl⟩ := r; exact ⟨[], .int i t, List.not_mem_nil⟩
  | _, _, _, .str x, r => by obtain ⟨t, rfl⟩ := r; exact ⟨[], .str x t, List.not_mem_nil⟩
  | _, _, _, .lst h t, r => by
    cases r
    have ne := sys_ne hs I h
    obtain ⟨_, its, n, rv, e⟩ := I.hok _ _ h
    obtain ⟨as, q, z⟩ := DvAll.readsS hs I t rv
    refine ⟨_ :: as, .list e rfl rfl (by simpa using q), fun hm => ?_⟩
    rcases List.mem_cons.mp hm with e | hm
    · exact ne e
    · exact z hm
  | _, _, _, .tup h t, r => by
    cases r
    obtain ⟨_, its, rv, o, e, hc, n, hd⟩ := I.hok _ _ h
    obtain ⟨as, q, z⟩ := DvAll.readsS hs I t rv
    exact ⟨as, .tuple e hc hd (by simpa using q), z⟩
  | _, _, _, .tuf h t, r => by
    cases r
    obtain ⟨_, _, its, rv, o, e, hc, n, hd⟩ := I.hok _ _ h
    obtain ⟨as, q, z⟩ := DvAll.readsS hs I t rv
    exact ⟨as, .tuple e hc hd (by simpa using q), z⟩
  | _, _, _, .dic h t, r => by
    cases r
    have ne := sys_ne hs I h
    obtain ⟨_, ns, vs, kv, o, es, ep, e, hx, hd, _, hp, _⟩ := I.hok _ _ h
    obtain ⟨bs, q, z⟩ := DvKv.readsS hs I t kv hp
    refine ⟨_ :: [] ++ bs, .dict e hx.1 hd (keys_read hp kv t) q, fun hm => ?_⟩
    rcases List.mem_cons.mp (by simpa using hm) with e | hm
    · exact ne e
    · exact z hm
theorem DvAll.readsS (hs : HasSys X.base) (I : Inv X pins σ H s) : ∀ {vs : List V} {ds : List PyData} {us : List Value}, DvAll H vs ds → Vals vs us → ∃ as, ReadsAll s.heap us ds as ∧ sysModules ∉ as
  | _, _, _, .nil, .nil => ⟨[], .nil, List.not_mem_nil⟩
  | _, _, _, .cons a b, .cons r q => by
    obtain ⟨as, h1, z1⟩ := Dv.readsS hs I a r
    obtain ⟨bs, h2, z2⟩ := DvAll.readsS hs I b q
    refine ⟨as ++ bs, .cons h1 h2, fun hm => ?_⟩
    rcases List.mem_append.mp hm with m | m
    · exact z1 m
    · exact z2 m
theorem DvKv.readsS (hs : HasSys X.base) (I : Inv X pins σ H s) : ∀ {kvs : List (Key × V)} {ds : List (PyData × PyData)} {vs : List (Key × Value)} {es : List DictEntry}, DvKv H kvs ds → KV kvs vs → Pairs (mixKind X.prog X.w) es vs →
    ∃ bs, ReadsAll s.heap (es.map (·.val)) (ds.map (·.2)) bs ∧ sysModules ∉ bs
  | _, _, _, _, .nil, .nil, .nil => ⟨[], .nil, List.not_mem_nil⟩
  | _, _, _, _, .cons a b, .cons r q, .cons h1 h2 t => by
    obtain ⟨as, g1, z1⟩ := Dv.readsS hs I a r.2
    obtain ⟨bs, g2, z2⟩ := DvKv.readsS hs I b q t
    refine ⟨as ++ bs, .cons (by show Reads s.heap (DictEntry.val _) _ as; rw [h2]; exact g1) g2, fun hm => ?_⟩
    rcases List.mem_append.mp hm with m | m
    · exact z1 m
    · exact z2 m
end
end
def rReprS : List V → Hp → VK → Prop := fun xs H Q => ∃ v d, xs = [v] ∧ Dv H v d ∧ Fit d ∧ Q (.str d.shown) H
theorem call_reprS {X : Cx} (hg : X.A.guards = some []) (hu : X.A.units + 64 < cLine) (hs : HasSys X.base) : CallR X (.builtin "repr") rReprS := by
  intro pins s σ H xs us Q I r h
  obtain ⟨v, d, rfl, hd, f, q⟩ := h
  obtain ⟨u, rfl, rv⟩ := vals1 r
  have hdep := f.dep
  obtain ⟨as, rd, hs⟩ := Dv.readsS hs I hd rv
  have fin : ∀ (h' : Heap) (tk : Nat) (t : Tok), (∀ b o, s.heap.get? b = some o → h'.get? b = some o) → EP X pins σ Q (.str d.shown t) { s with heap := h', toks := tk } :=
    fun h' tk t k => ⟨.str d.shown, H, I.kept k, ⟨_, rfl⟩, q⟩
  cases hd with
  | non =>
    cases rv
    exact PySem.P.repr_of_none (fin s.heap _ _ fun _ _ e => e)
  | bl b =>
    cases rv
    exact PySem.P.repr_of_bool (fin s.heap _ _ fun _ _ e => e)
  | int i =>
    obtain ⟨t, rfl⟩ := rv
    exact PySem.P.repr_of_int (by simpa [PyData.showable] using f.sh) (fin s.heap _ _ fun _ _ e => e)
  | str x =>
    obtain ⟨t, rfl⟩ := rv
    exact PySem.P.repr_of_str (fin s.heap _ _ fun _ _ e => e) (by simpa [PyData.shown] using f.len)
  | lst h t =>
    cases rv
    exact repr_of_reads' rd f.sh (fun _ => hs) hg (by omega) (fun _ _ e => e) (fun h' u tk k => fin h' tk u k) f.len
  | tup h t =>
    cases rv
    exact repr_of_reads' rd f.sh (fun _ => hs) hg (by omega) (fun _ _ e => e) (fun h' u tk k => fin h' tk u k) f.len
  | tuf h t =>
    cases rv
    exact repr_of_reads' rd f.sh (fun _ => hs) hg (by omega) (fun _ _ e => e) (fun h' u tk k => fin h' tk u k) f.len
  | dic h t =>
    cases rv
    exact repr_of_reads' rd f.sh (fun _ => hs) hg (by omega) (fun _ _ e => e) (fun h' u tk k => fin h' tk u k) f.len
/-! ### the law's end, with the table of modules -/
theorem lawS {P : Program} {w : World} {K : PySem.W.Frag} {mg mb mm : Str → Option Value} {k : Nat} {fa a : Addr} {fd : FuncData} {x : Str} {sp : Sp}
    {t0 : Shared} {us : List Value} {ns : List Int} (inK : K.In t0.heap) (gl : t0.heap.Ns mainGlobals mg) (bl : t0.heap.Ns builtinsNs mb) (sy : t0.heap.Ns sysModules mm)
    (blt : ∀ y : Str, y ≠ "__name__" → mb y = bootBuiltins y) (lim : t0.heap.NoLimit) (nog : t0.gens = #[])
    (at' : t0.heap.get? a = some { cls := .type "list", data := .seq us.toArray }) (hints : IntsAre us ns) (short : ns.length ≤ sizeLine)
    (room : Room k callerA) (F : ∀ base : Heap, K.In base → base.Ns mainGlobals mg → HasSys base → FnG P w K mg base k fa fd [x] sp)
    (bind : ∀ (s : Shared) (u : Value), BindsTo s fd ⟨[u], []⟩ [(x, u)])
    (want : ∀ H : Hp, SqL K H a (ns.map V.int) → sp [.ref a] H (fun v _ => v = .bl true) fun _ _ _ => False) :
    codeAny (model P w) callerA (.call (.ref fa) ⟨[.ref a], []⟩)
      (fun r s2 => r = .ok (.ret (.bool true)) ∧ OldK t0.heap s2.heap ∧ s2.os = t0.os ∧ AllBare s2.gens) t0 := by
  have vals : Vals (ns.map V.int) us := vals_ints hints
  have same := hints.length
  have main : ∀ H : Hp, (∀ b u, H b = some u → b = a ∧ K.lookup a = none ∧ ∃ o ys, u = .frz o (.lst ys)) → SqL K H a (ns.map V.int) → HOk P w H t0.heap →
      codeAny (model P w) callerA (.call (.ref fa) ⟨[.ref a], []⟩)
        (fun r s2 => r = .ok (.ret (.bool true)) ∧ OldK t0.heap s2.heap ∧ s2.os = t0.os ∧ AllBare s2.gens) t0 := by
    intro H only sq ok
    have noDict : ∀ {b : Addr} {o : Obj} {es : Array DictEntry} {ep : Nat}, t0.heap.get? b = some o → o.data = .dict es ep → H b = none := by
      intro b o es ep e dd
      cases q : H b with
      | none => rfl
      | some u =>
        obtain ⟨rfl, _⟩ := only b u q
        rw [at'] at e
        cases e
        cases dd
    have ns' : ∀ {b : Addr} {m : Str → Option Value}, t0.heap.Ns b m → (hidT t0.heap H).Ns b m := by
      rintro b m ⟨o, es, ep, e, dd, r⟩
      exact ⟨o, es, ep, hidT_get e (noDict e dd), dd, r⟩
    have inB : K.In (hidT t0.heap H) := by
      intro b o e
      refine hidT_get (inK b o e) ?_
      cases q : H b with
      | none => rfl
      | some u =>
        obtain ⟨rfl, z, _⟩ := only b u q
        rw [z] at e
        cases e
    obtain ⟨mc, l1, l2⟩ := lim
    have md : Mod K mg (hidT t0.heap H) := ⟨inB, ns' gl, ⟨mb, ns' bl, blt⟩, mc, ns' l1, l2⟩
    have hsy : HasSys (hidT t0.heap H) := by
      obtain ⟨o, _, _, e, _⟩ := ns' sy
      exact ⟨o, e⟩
    have env : Env0 P w K mg (hidT t0.heap H) callerA [] t0 H :=
      ⟨rfl, md, fun b o e => of_hidT e, Nat.le_of_eq (hidT_size _ _), trivial, fun b hb => absurd hb List.not_mem_nil, ok, AllBare.of_eq nog⟩
    refine codeAny_mono ((F _ inB (ns' gl) hsy).go callerA [] t0 H ⟨[.ref a], []⟩ [.ref a] [.ref a] _ _ room rfl env (bind t0 (.ref a)) (.cons rfl .nil) (want H sq)) ?_
    intro r s2 out
    cases r with
    | error u => exact False.elim out
    | ok fl =>
      cases fl with
      | next => exact False.elim out
      | brk => exact False.elim out
      | cont => exact False.elim out
      | ret u =>
        obtain ⟨v, H2, os, bare, un, ok2, rv, q⟩ := out
        obtain rfl : v = .bl true := q
        obtain rfl : u = Value.bool true := rv
        refine ⟨rfl, OldK.of_keep ?_, os, bare⟩
        intro b o e
        cases z : H b with
        | none => exact un.keep b o e z (by intro y; cases y) (by simp)
        | some u =>
          obtain ⟨_, _, ob, ys, rfl⟩ := only b u z
          obtain ⟨e1, _⟩ := ok b _ z
          obtain ⟨e2, _⟩ := ok2 b _ (un.frzs b ob _ z)
          rw [e] at e1
          cases e1
          exact e2
  cases lk : K.lookup a with
  | some o =>
    have e := inK a o lk
    rw [at'] at e
    cases e
    refine main (fun _ => none) (fun b u z => by cases z) (.inr ⟨_, us.toArray, _, lk, rfl, rfl, rfl, ?_, by simpa using vals⟩) (fun b u z => by cases z)
    rw [List.size_toArray, same]
    exact short
  | none =>
    refine main (fun b => if b = a then some (.frz { cls := .type "list", data := .seq us.toArray } (.lst (ns.map V.int))) else none) ?_ (.inl (.inr ⟨_, if_pos rfl⟩)) ?_
    · intro b u z
      by_cases hb : b = a
      · have z2 := (if_pos hb).symm.trans z
        cases z2
        exact ⟨hb, lk, _, _, rfl⟩
      · have z2 := (if_neg hb).symm.trans z
        cases z2
    · intro b u z
      by_cases hb : b = a
      · have z2 := (if_pos hb).symm.trans z
        subst hb
        cases z2
        exact ⟨at', by rw [List.length_map]; exact short, us, _, vals, at'⟩
      · have z2 := (if_neg hb).symm.trans z
        cases z2
theorem walkS {l : PySem.W.OpenLaw} {n k : Nat} {q : Program} {loose : List Str} {XP : (Str → Option Value) → Heap → Prop} {YP : World → Heap → Prop} {d : DefRec}
    {K : Params → PySem.W.Frag} {sp : World → Sp} {x : Str} (hn : l.most = some n) (hn2 : n ≤ sizeLine) (hdf : d.params.defaults = []) (hr : Room k callerA) (hi : importsNone q = true)
    (hY : ∀ (w : World) (h : Heap), YP w h → (K w.params).In h)
    (F : ∀ (w : World) (mg : Str → Option Value) (fa : Addr) (h : Heap), (K w.params).In h → h.Ns mainGlobals mg → mg d.name = some (.ref fa) →
      ∃ fd : FuncData, (∀ (s : Shared) (u : Value), BindsTo s fd ⟨[u], []⟩ [(x, u)]) ∧
        ∀ base : Heap, (K w.params).In base → base.Ns mainGlobals mg → HasSys base → FnG l.prog w (K w.params) mg base k fa fd [x] (sp w))
    (want : ∀ (w : World) (H : Hp) (a : Addr) (ns : List Int), ns.length ≤ n → SqL (K w.params) H a (ns.map V.int) → sp w [.ref a] H (fun v _ => v = .bl true) fun _ _ _ => False) :
    PySem.W.WalkO q loose XP YP l.row.toRowW d [] (fun f vs => PySem.call f vs) := by
  refine Att.attach_callB hn hdf ?_
  intro w s0 s1 mg mb fa o pm cd doc a vs ns G Y ho hd hcd hmg hobj hints hlen _ hg
  obtain ⟨fd, hb, hF⟩ := F w mg fa _ (hY w _ Y) G.T.g hmg
  obtain ⟨mm, sy, _⟩ := (G.T.seer hi).mods
  exact lawS (hY w _ Y) G.T.g G.T.b sy G.T.builtins G.T.nolimit hg hobj hints (Nat.le_trans hlen hn2) hr hF hb fun H hS => want w H a ns hlen hS
end Lr

namespace Lr
open PySem L2 PySem.Spec PyProof.Rows
theorem flat_ints (ys : List Int) : (ys.map V.int).all flatV = true := by
  rw [List.all_map]
  exact List.all_eq_true.mpr fun _ _ => rfl
theorem nd_inj : ∀ {l : List Int}, l.Nodup → ∀ {i j : Nat} (hi : i < l.length) (hj : j < l.length), l[i] = l[j] → i = j
  | x :: r, nd, 0, 0, _, _, _ => rfl
  | x :: r, nd, 0, j + 1, _, hj, h => by
    have := List.nodup_cons.mp nd
    exact absurd (by simp only [List.getElem_cons_zero, List.getElem_cons_succ] at h; rw [h]; exact List.getElem_mem _) this.1
  | x :: r, nd, i + 1, 0, hi, _, h => by
    have := List.nodup_cons.mp nd
    exact absurd (by simp only [List.getElem_cons_zero, List.getElem_cons_succ] at h; rw [← h]; exact List.getElem_mem _) this.1
  | x :: r, nd, i + 1, j + 1, hi, hj, h => by
    have := nd_inj (List.nodup_cons.mp nd).2 (i := i) (j := j) (by simpa using hi) (by simpa using hj) (by simpa using h)
    omega
/-! ### t.index(x) of a tuple of ints, the first place -/
def rTupIx (K : PySem.W.Frag) : V → List V → Hp → VK → Prop := fun x xs H Q => ∃ (p : Addr) (ys : List Int) (z : Int) (j : Nat), x = .ref p ∧ xs = [.int z] ∧ SqT K H p (ys.map V.int) ∧ ys[j]? = some z ∧ (∀ m, m < j → ys[m]? ≠ some z) ∧ Q (.int (j : Nat)) H
theorem mt_tupIx {X : Cx} {K : PySem.W.Frag} (hK : X.K = K) : MtR X "tuple.index" (rTupIx K) := by
  subst hK
  intro pins s σ H x xs v us Q I rx rs h
  obtain ⟨p, ys, z, j, rfl, rfl, hq, hy, hno, q⟩ := h
  cases rx
  obtain ⟨u, rfl, t, rfl⟩ := vals1 rs
  obtain ⟨its, r, pl, hz⟩ := I.tuple hq
  obtain ⟨⟨cls, dd, dt, sl⟩, ho, hc, n, hd⟩ := pl
  simp only at hc hd
  subst hc
  subst hd
  have hl : its.toArray.size = ys.length := by rw [List.size_toArray, ← r.length, List.length_map]
  have hj : j < its.toArray.size := by rw [hl]; exact (List.getElem?_eq_some_iff.mp hy).1
  have at' : ∀ (m : Nat) (hm : m < its.toArray.size), ∃ y t', ys[m]? = some y ∧ its.toArray[m] = Value.int y t' := fun m hm => by
    have hm' : m < ys.length := by rw [← hl]; exact hm
    obtain ⟨w, hw, t', hw'⟩ := r.get (i := m) (x := .int ys[m]) (by simp [hm'])
    refine ⟨ys[m], t', List.getElem?_eq_getElem hm', ?_⟩
    have e := (List.getElem?_eq_some_iff.mp hw).2
    rw [← hw', ← e]
    simp
  refine call_meets PySem.F.slot_tuple_index ⟨_, ho, rfl⟩ PySem.F.entry_tuple_index (PySem.F.args_tuple_index_2 _ _) (TI.tuple_indexAt p its.toArray n dd sl (.int z t) (eqU (.int z)) j hj ?_ ?_)
    ⟨ho, fun w hw => mem_eqAt (x := .int z) ⟨t, rfl⟩ rfl r (flat_ints ys) w (by simpa using hw), ⟨.int (j : Nat), H, I.tok _, ⟨_, rfl⟩, q⟩⟩
  · obtain ⟨y, t', h1, h2⟩ := at' j hj
    rw [hy] at h1
    cases h1
    rw [h2]
    show (z == z) = true
    exact beq_self_eq_true z
  · intro m hm hmj
    obtain ⟨y, t', h1, h2⟩ := at' m hm
    rw [h2]
    show (y == z) = false
    exact beq_eq_false_iff_ne.mpr fun e => hno m hmj (e ▸ h1)
/-- t.index(e) -/
def tTix (K : PySem.W.Frag) (to te : TE) : TE := fun σ H Q => to σ H fun x H1 => (∃ p xs, x = .ref p ∧ Ti H1 p xs) ∧ te σ H1 fun y H2 => rTupIx K x [y] H2 Q
theorem pe_tix {X : Cx} {K : PySem.W.Frag} {o e : Expr} {to te : TE} {apos cpos : Pos} (hK : X.K = K) (ho : PE X o to) (he : PE X e te)
    (hbase : attributeBase o "index" X.env (eval o X.env) = eval o X.env := by rfl)
    (hfew : ((backTo cpos (starEach (e :: []) X.env)).all (fun x => !x.1) && (backToKw cpos (keywordEach [] X.env)).all (fun x => x.1.isSome)
      && decide ((e :: ([] : List Expr)).length + ([] : List Keyword).length + (if ([] : List Keyword).isEmpty then 0 else 1) < 30)) = true := by rfl)
    (hline : (apos.endLine == cpos.line) = true := by rfl) (hs : starEach (e :: []) X.env = (false, eval e X.env) :: starEach [] X.env := by rfl) (hplain : (backTo cpos (starEach [] X.env)).any (·.1) = false := by rfl) :
    PE X (.Call (.Attribute o "index" apos) (e :: []) [] cpos) (tTix K to te) := by
  subst hK
  have ha : PA X [e] (tCons te tNil) := pa_cons he pa_nil hs
  refine ⟨fun pins s σ H Q I h => ?_⟩
  refine wpAny_Call_method_late hbase hfew hline rfl (thn (ho.run pins s σ H _ I h) fun v s1 ⟨x, H1, I1, r1, ⟨p, xs, ex, o1, hp, hdn⟩, q1⟩ => ?_)
  subst ex
  cases r1
  obtain ⟨hg, _, its, _, o2, hg2, hc, _⟩ := I1.hok p _ hp
  have eo : o1 = o2 := by
    rw [hg] at hg2
    exact Option.some.inj hg2
  subst eo
  refine ⟨"tuple", _, PySem.F.plainAttrs_tuple, PySem.F.slot_tuple_index, PySem.F.type_tuple_index, ⟨_, hg, hc⟩, fun a ea => ?_, ?_⟩
  · cases ea
    exact ⟨_, hg, hdn⟩
  have hA := ha.run cpos pins s1 σ H1 (fun vs H2 => rTupIx X.K (.ref p) vs H2 Q) I1 q1
  rw [hs] at hA ⊢
  refine Calls.callWith_builtin (by show (false || (backTo cpos (starEach [] X.env)).any (·.1)) = false; rw [hplain] <;> rfl) (Calls.evalArgs_plain ?_)
  exact thn hA fun us s2 ⟨vs, H2, I2, r2, q2⟩ => mt_tupIx rfl pins s2 σ H2 (.ref p) vs _ us Q I2 rfl r2 q2
theorem k_any {X : Cx} {K : PySem.W.Frag} (hK : X.K = K) (hc : X.calm = true) : CallR X (.builtin "any") (rAny K) := by
  subst hK
  exact cr_any hc
theorem sl_ti {K : PySem.W.Frag} {H : Hp} {a : Addr} {xs : List V} {Q : VK} {lo hi : Option Int} (h : Tu H a xs) (k : ∀ b H', Ex H H' → Tu H' b (cutV xs lo hi) → Q (.ref b) H') : rSlA K (.ref a) lo hi H Q :=
  ⟨a, xs, rfl, h.sq, fun w => k a H (Evl.Ex.refl H) (by rw [cut_whole w]; exact h), fun _ p hp => k p _ (Evl.Ex.new hp) (.inl upd_same)⟩
/-! ### [e for x in .. if ..], the values told -/
section
variable {K : PySem.W.Frag} {a : Addr} {tt : TT} {te : TE} {vs : List Nat} {σ : L2.St} {H1 : Hp} {D : Addr} {Qd : Hp → Prop} {j : Nat}
theorem mf_turn {α : Type} {xs : List α} (f : α → Bool) (g : α → V) (hD : H1 D = none) (hn : xs.length < 100000) {i : Nat} {x : α} {σ2 : L2.St} {H' : Hp} (hi : xs[i]? = some x) (e : Ex H1 H') (hy : H' D = some (.lst (((xs.take i).filter f).map g)))
    (ht : ∀ Q : Bool → Hp → Prop, (∀ H2, Ex H' H2 → Q (f x) H2) → tt σ2 H' Q) (he : ∀ H2, Ex H' H2 → f x = true → ∀ Q : VK, (∀ H3, Ex H2 H3 → Q (g x) H3) → te σ2 H2 Q) :
    tt σ2 H' fun b H3 => if b = true then te σ2 H3 fun y H4 => ∃ acc, H4 D = some (.lst acc) ∧ acc.length < sizeLine ∧ (Ex H1 (upd H4 D (.lst (acc ++ [y]))) ∧ (upd H4 D (.lst (acc ++ [y]))) D = some (.lst (((xs.take (i + 1)).filter f).map g)))
      else (Ex H1 H3 ∧ H3 D = some (.lst (((xs.take (i + 1)).filter f).map g))) := by
  have lt := (List.getElem?_eq_some_iff.mp hi).1
  have step : xs.take (i + 1) = xs.take i ++ [x] := by
    rw [List.take_succ, hi]
    rfl
  refine ht _ fun H2 e2 => ?_
  cases hf : f x with
  | true =>
    refine iteT (he H2 e2 hf _ fun H3 e3 => ⟨_, e3 _ _ (e2 _ _ hy), ?_, Evl.Ex.mut ((e.trans e2).trans e3) hD, ?_⟩)
    · rw [List.length_map]
      refine Nat.lt_of_le_of_lt (List.length_filter_le _ _) (Evl.sz_lt ?_)
      rw [List.length_take]
      omega
    · rw [upd_same, step, List.filter_append]
      simp [hf]
  | false =>
    refine iteF ⟨e.trans e2, ?_⟩
    rw [e2 _ _ hy, step, List.filter_append]
    simp [hf]
theorem mf_list {xs : List V} (f : V → Bool) (g : V → V) (hD : H1 D = none) (hx : SqL K H1 a xs) (hn : xs.length < 100000) (hw : ∀ x, wipe ((wipe σ vs).set j (some x)) vs = wipe σ vs)
    (ht : ∀ x H', x ∈ xs → Ex H1 H' → ∀ Q : Bool → Hp → Prop, (∀ H2, Ex H' H2 → Q (f x) H2) → tt ((wipe σ vs).set j (some x)) H' Q)
    (he : ∀ x H', x ∈ xs → Ex H1 H' → f x = true → ∀ Q : VK, (∀ H3, Ex H' H3 → Q (g x) H3) → te ((wipe σ vs).set j (some x)) H' Q)
    (hd : ∀ H', Ex H1 H' → H' D = some (.lst ((xs.filter f).map g)) → Qd H') :
    ∃ W : Nat → Nat → Hp → Prop, (∃ m, W 0 m (upd H1 D (.lst []))) ∧ ∀ i m H, W i m H →
      ((Itl K a).stop i H ∧ Qd H) ∨ ((Itl K a).go i H ∧ ∃ Nx : Hp → Prop, (∀ H', Nx H' → ∃ m', m' < m ∧ W (i + 1) m' H') ∧ ∀ x H', (Itl K a).yld i H x H' → gName j x (wipe σ vs) H' fun σ2 H2 => wipe σ2 vs = wipe σ vs ∧ tt σ2 H2 fun b H3 =>
        if b = true then te σ2 H3 fun y H4 => ∃ acc, H4 D = some (.lst acc) ∧ acc.length < sizeLine ∧ Nx (upd H4 D (.lst (acc ++ [y]))) else Nx H3) := by
  refine lc_list (xs := xs) (fun i H' => Ex H1 H' ∧ H' D = some (.lst (((xs.take i).filter f).map g))) ⟨Evl.Ex.new hD, by simp [upd_same]⟩ (fun i H' _ h => Evl.ex_l h.1 hx) ?_ ?_
  · rintro i x H' hi ⟨e, hy⟩
    have hm := List.mem_of_getElem? hi
    exact ⟨hw x, mf_turn f g hD hn hi e hy (ht x H' hm e) fun H2 e2 hf => he x H2 hm (e.trans e2) hf⟩
  · rintro H' ⟨e, hy⟩
    rw [List.take_of_length_le (Nat.le_refl _)] at hy
    exact hd H' e hy
theorem mf_tup {xs : List V} (f : V → Bool) (g : V → V) (hD : H1 D = none) (hx : SqT K H1 a xs) (hn : xs.length < 100000) (hw : ∀ x, wipe ((wipe σ vs).set j (some x)) vs = wipe σ vs)
    (ht : ∀ x H', x ∈ xs → Ex H1 H' → ∀ Q : Bool → Hp → Prop, (∀ H2, Ex H' H2 → Q (f x) H2) → tt ((wipe σ vs).set j (some x)) H' Q)
    (he : ∀ x H', x ∈ xs → Ex H1 H' → f x = true → ∀ Q : VK, (∀ H3, Ex H' H3 → Q (g x) H3) → te ((wipe σ vs).set j (some x)) H' Q)
    (hd : ∀ H', Ex H1 H' → H' D = some (.lst ((xs.filter f).map g)) → Qd H') :
    ∃ W : Nat → Nat → Hp → Prop, (∃ m, W 0 m (upd H1 D (.lst []))) ∧ ∀ i m H, W i m H →
      ((Itt K a).stop i H ∧ Qd H) ∨ ((Itt K a).go i H ∧ ∃ Nx : Hp → Prop, (∀ H', Nx H' → ∃ m', m' < m ∧ W (i + 1) m' H') ∧ ∀ x H', (Itt K a).yld i H x H' → gName j x (wipe σ vs) H' fun σ2 H2 => wipe σ2 vs = wipe σ vs ∧ tt σ2 H2 fun b H3 =>
        if b = true then te σ2 H3 fun y H4 => ∃ acc, H4 D = some (.lst acc) ∧ acc.length < sizeLine ∧ Nx (upd H4 D (.lst (acc ++ [y]))) else Nx H3) := by
  refine lc_tup (xs := xs) (fun i H' => Ex H1 H' ∧ H' D = some (.lst (((xs.take i).filter f).map g))) ⟨Evl.Ex.new hD, by simp [upd_same]⟩ (fun i H' _ h => Evl.ex_t h.1 hx) ?_ ?_
  · rintro i x H' hi ⟨e, hy⟩
    have hm := List.mem_of_getElem? hi
    exact ⟨hw x, mf_turn f g hD hn hi e hy (ht x H' hm e) fun H2 e2 hf => he x H2 hm (e.trans e2) hf⟩
  · rintro H' ⟨e, hy⟩
    rw [List.take_of_length_le (Nat.le_refl _)] at hy
    exact hd H' e hy
/-- lo, lo + 1, .. n of them -/
def rgL (lo : Int) (n : Nat) : List Int := (List.range n).map fun (i : Nat) => lo + (i : Int)
theorem rgL_len (lo : Int) (n : Nat) : (rgL lo n).length = n := by unfold rgL; simp
theorem rgL_get {lo : Int} {n i : Nat} (h : i < n) : (rgL lo n)[i]? = some (lo + (i : Int)) := by unfold rgL; simp [h]
theorem mem_rgL {lo x : Int} {n : Nat} : x ∈ rgL lo n ↔ lo ≤ x ∧ x < lo + n := by
  unfold rgL
  simp only [List.mem_map, List.mem_range]
  constructor
  · rintro ⟨k, hk, rfl⟩
    omega
  · rintro ⟨h0, h1⟩
    exact ⟨(x - lo).toNat, by omega, by omega⟩
theorem mf_range {lo : Int} {n : Nat} (f : Int → Bool) (g : Int → V) (hD : H1 D = none) (hn : n < 100000) (hw : ∀ x, wipe ((wipe σ vs).set j (some x)) vs = wipe σ vs)
    (ht : ∀ x H', x ∈ rgL lo n → Ex H1 H' → ∀ Q : Bool → Hp → Prop, (∀ H2, Ex H' H2 → Q (f x) H2) → tt ((wipe σ vs).set j (some (.int x))) H' Q)
    (he : ∀ x H', x ∈ rgL lo n → Ex H1 H' → f x = true → ∀ Q : VK, (∀ H3, Ex H' H3 → Q (g x) H3) → te ((wipe σ vs).set j (some (.int x))) H' Q)
    (hd : ∀ H', Ex H1 H' → H' D = some (.lst (((rgL lo n).filter f).map g)) → Qd H') :
    ∃ W : Nat → Nat → Hp → Prop, (∃ m, W 0 m (upd H1 D (.lst []))) ∧ ∀ i m H, W i m H →
      ((Itr lo n).stop i H ∧ Qd H) ∨ ((Itr lo n).go i H ∧ ∃ Nx : Hp → Prop, (∀ H', Nx H' → ∃ m', m' < m ∧ W (i + 1) m' H') ∧ ∀ x H', (Itr lo n).yld i H x H' → gName j x (wipe σ vs) H' fun σ2 H2 => wipe σ2 vs = wipe σ vs ∧ tt σ2 H2 fun b H3 =>
        if b = true then te σ2 H3 fun y H4 => ∃ acc, H4 D = some (.lst acc) ∧ acc.length < sizeLine ∧ Nx (upd H4 D (.lst (acc ++ [y]))) else Nx H3) := by
  refine lc_range (lo := lo) (n := n) (fun i H' => Ex H1 H' ∧ H' D = some (.lst ((((rgL lo n).take i).filter f).map g))) ⟨Evl.Ex.new hD, by simp [upd_same]⟩ ?_ ?_
  · rintro i H' hi ⟨e, hy⟩
    have hg := rgL_get (lo := lo) hi
    have hm := List.mem_of_getElem? hg
    exact ⟨hw _, mf_turn f g hD (by rw [rgL_len]; exact hn) hg e hy (ht _ H' hm e) fun H2 e2 hf => he _ H2 hm (e.trans e2) hf⟩
  · rintro H' ⟨e, hy⟩
    rw [List.take_of_length_le (by rw [rgL_len]; exact Nat.le_refl _)] at hy
    exact hd H' e hy
theorem tt_yes {σ2 : L2.St} {H' : Hp} {Q : Bool → Hp → Prop} (q : ∀ H2, Ex H' H2 → Q true H2) : tYes σ2 H' Q := q H' (Evl.Ex.refl H')
end
/-! ### {x: i for i, x in enumerate(a tuple of different ints)} -/
section
variable {K : PySem.W.Frag} {a : Addr} {vs : List Nat} {σ : L2.St} {H1 : Hp} {D : Addr} {Qd : Hp → Prop} {i j : Nat} {tk tv : TE}
theorem dc_places {ns : List Int} (nd : ns.Nodup) (hn : ns.length < 100000) (hD : H1 D = none) (ha : Tu H1 a (ns.map V.int))
    (hw : ∀ x y, wipe (((wipe σ vs).set i (some x)).set j (some y)) vs = wipe σ vs)
    (hk : ∀ x y H' (R : VK), R y H' → tk (((wipe σ vs).set i (some x)).set j (some y)) H' R) (hv : ∀ x y H' (R : VK), R x H' → tv (((wipe σ vs).set i (some x)).set j (some y)) H' R)
    (hd : ∀ kvs H', Ex H1 H' → H' D = some (.dK kvs) → (∀ (k : Nat) (z : Int), ns[k]? = some z → valV kvs (Sum.inl z : Key) = some (.int (k : Int))) → Qd H') :
    ∃ W : Nat → Nat → Hp → Prop, (∃ m, W 0 m (upd H1 D (.dK []))) ∧ ∀ n m H, W n m H →
      ((ItT a (ns.map V.int)).stop n H ∧ Qd H) ∨ ((ItT a (ns.map V.int)).go n H ∧ ∃ Nx : Hp → Prop, (∀ H', Nx H' → ∃ m', m' < m ∧ W (n + 1) m' H') ∧ ∀ x H', (ItT a (ns.map V.int)).yld n H x H' →
        gTup K 2 (gCons (gName i) (gCons (gName j) gNil)) x (wipe σ vs) H' fun σ2 H2 => wipe σ2 vs = wipe σ vs ∧ tYes σ2 H2 fun b H3 =>
        if b = true then tk σ2 H3 fun y H4 => tv σ2 H4 fun z H5 => ∃ kvs k, y = kV k ∧ H5 D = some (.dK kvs) ∧ kvs.length < sizeLine ∧ Nx (upd H5 D (.dK (putK kvs k z))) else Nx H3) := by
  refine ⟨fun n m H' => m = ns.length - n ∧ n ≤ ns.length ∧ Ex H1 H' ∧ ∃ kvs, H' D = some (.dK kvs) ∧ kvs.length ≤ n ∧ ∀ (k : Nat) (z : Int), k < n → ns[k]? = some z → valV kvs (Sum.inl z : Key) = some (.int (k : Int)), ⟨_, rfl, Nat.zero_le _, Evl.Ex.new hD, [], upd_same, Nat.le_refl _, fun k z h => absurd h (Nat.not_lt_zero _)⟩, ?_⟩
  rintro n m H' ⟨rfl, hle, e, kvs, hk1, hk2, hk3⟩
  have ha' := ha.ex e
  by_cases lt : n < ns.length
  · refine .inr ⟨⟨ha', by rw [List.length_map]; exact lt⟩, _, fun H2 q => ⟨ns.length - (n + 1), by omega, rfl, lt, q⟩, ?_⟩
    rintro y H3 ⟨T, x, rfl, hT, hx, rfl⟩
    rw [List.getElem?_map, List.getElem?_eq_getElem lt] at hx
    cases hx
    refine ⟨T, _, rfl, SqT.of upd_same, rfl, _, _, rfl, _, _, rfl, rfl, hw _ _, yesT (hk _ _ _ _ (hv _ _ _ _ ⟨kvs, Sum.inl ns[n], rfl, ?_, ?_, ?_⟩))⟩
    · rw [upd_ne (ne_of_none hk1 hT)]
      exact hk1
    · exact Nat.lt_of_le_of_lt hk2 (Evl.sz_lt (by omega))
    · refine ⟨Evl.Ex.mut (e.trans (Evl.Ex.new hT)) hD, _, upd_same, ?_, fun k z hkn hz => ?_⟩
      · have := length_putK kvs (Sum.inl ns[n] : Key) (.int (n : Int))
        omega
      · rw [valV_put]
        by_cases hkn2 : k < n
        · have hz2 := List.getElem?_eq_some_iff.mp hz
          obtain ⟨hkl, hz3⟩ := hz2
          have : ¬ (Sum.inl z : Key) = Sum.inl ns[n] := fun q => by
            have q2 := Sum.inl.inj q
            rw [← hz3] at q2
            have := nd_inj nd hkl lt q2
            omega
          rw [if_neg this]
          exact hk3 k z hkn2 hz
        · have ek : k = n := by omega
          subst ek
          rw [List.getElem?_eq_getElem lt] at hz
          cases hz
          rw [if_pos rfl]
  · have en : n = ns.length := by omega
    subst en
    exact .inl ⟨⟨ha', by rw [List.length_map]; exact Nat.le_refl _⟩, hd kvs H' e hk1 fun k z hz => hk3 k z (List.getElem?_eq_some_iff.mp hz).1 hz⟩
end
end Lr

namespace Lr
open PySem L2
/-! ### an urn of numbers that counts its turns: its dict is known by how often it was asked at most; Ed: the urn was asked n times, all else stays -/
def noExt : HO → Bool
  | .ext _ => false
  | _ => true
def urnKvs (l : Addr) (t : Int) : List (Key × V) := [(Sum.inr "cells", .ref l), (Sum.inr "turn", .int t)]
def CellsOk (cs : List Int) : Prop := (∀ x ∈ cs, 0 ≤ x) ∧ cs ≠ [] ∧ cs.length ≤ 64
section
variable (P : Program) (w : World)
def phiU (c l : Addr) (T : Nat) : Heap → Prop := fun h => ∃ t : Int, 0 ≤ t ∧ t ≤ T ∧ ObjOk P w H0 h c (.dK (urnKvs l t))
def phiL (l : Addr) : Heap → Prop := fun h => ∃ cs : List Int, CellsOk cs ∧ ObjOk P w H0 h l (.lst (cs.map V.int))
def UrnAt (H : Hp) (c l : Addr) (T : Nat) : Prop := ∃ T', T' ≤ T ∧ H c = some (.ext (phiU P w c l T')) ∧ H l = some (.ext (phiL P w l)) ∧ l ≠ c
/-- all but what is told by ext stays -/
def Exn (H H' : Hp) : Prop := ∀ a o, noExt o = true → H a = some o → H' a = some o
/-- from H to H' all but the urn stays; the urn was asked at most T times in all -/
structure Ed (c l : Addr) (T : Nat) (H H' : Hp) : Prop where
  keep : Exn H H'
  back : ∀ a, H' a = none → H a = none
  urn : UrnAt P w H' c l T
  sc : H c ≠ none
  sl : H l ≠ none
end
section
variable {P : Program} {w : World} {H H' H2 : Hp} {c l p : Addr} {n m T T2 : Nat} {o : HO}
theorem UrnAt.le {T' : Nat} (h : UrnAt P w H c l T) (hl : T ≤ T') : UrnAt P w H c l T' := by
  obtain ⟨t, a, b⟩ := h
  exact ⟨t, by omega, b⟩
theorem UrnAt.ex (h : UrnAt P w H c l T) (e : Ex H H') : UrnAt P w H' c l T := by
  obtain ⟨t, a, b, d, f⟩ := h
  exact ⟨t, a, e _ _ b, e _ _ d, f⟩
theorem UrnAt.cc (h : UrnAt P w H c l T) : H c ≠ none := by
  obtain ⟨t, a, b, d, f⟩ := h
  rw [b]; exact fun z => nomatch z
theorem UrnAt.ll (h : UrnAt P w H c l T) : H l ≠ none := by
  obtain ⟨t, a, b, d, f⟩ := h
  rw [d]; exact fun z => nomatch z
theorem UrnAt.of (h : UrnAt P w H c l T) (e : Ex H H') : Ed P w c l T H H' := ⟨fun a o _ h => e a o h, fun _ h => Evl.fresh_back e h, h.ex e, h.cc, h.ll⟩
theorem UrnAt.rf (h : UrnAt P w H c l T) : Ed P w c l T H H := h.of (Evl.Ex.refl H)
theorem Ed.trans (a : Ed P w c l T H H') (b : Ed P w c l T2 H' H2) : Ed P w c l T2 H H2 :=
  ⟨fun x o z h => b.keep x o z (a.keep x o z h), fun x h => a.back x (b.back x h), b.urn, a.sc, a.sl⟩
theorem Ed.le (a : Ed P w c l T H H') (h : T ≤ T2) : Ed P w c l T2 H H' := ⟨a.keep, a.back, a.urn.le h, a.sc, a.sl⟩
/-- behind it, a step that leaves all as it is -/
theorem Ed.ex (a : Ed P w c l T H H') (e : Ex H' H2) : Ed P w c l T H H2 := a.trans (a.urn.of e)
theorem Ed.pre (e : Ex H H') (C : UrnAt P w H c l T) (a : Ed P w c l T2 H' H2) : Ed P w c l T2 H H2 := (C.of e).trans a
theorem Ed.new (a : Ed P w c l T H H') (h : H' p = none) : Ed P w c l T H (upd H' p o) := a.ex (Evl.Ex.new h)
theorem Ed.mut (a : Ed P w c l T H H') (h : H p = none) : Ed P w c l T H (upd H' p o) := by
  have h1 : c ≠ p := fun z => a.sc (by rw [z]; exact h)
  have h2 : l ≠ p := fun z => a.sl (by rw [z]; exact h)
  refine ⟨fun x u z e => by rw [upd_ne (ne_of_none e h)]; exact a.keep x u z e, fun x z => ?_, ?_, a.sc, a.sl⟩
  · by_cases hx : x = p
    · rw [hx]; exact h
    · rw [upd_ne hx] at z; exact a.back x z
  · obtain ⟨t, q1, q2, q3, q4⟩ := a.urn
    exact ⟨t, q1, by rw [upd_ne h1]; exact q2, by rw [upd_ne h2]; exact q3, q4⟩
theorem Ed.sq {xs : List V} (e : Ed P w c l T H H') (h : H p = some (.lst xs)) : H' p = some (.lst xs) := e.keep _ _ rfl h
theorem Ed.tu {xs : List V} (e : Ed P w c l T H H') (h : H p = some (.tup xs)) : H' p = some (.tup xs) := e.keep _ _ rfl h
theorem Ed.di {xs : List (Key × V)} (e : Ed P w c l T H H') (h : H p = some (.dK xs)) : H' p = some (.dK xs) := e.keep _ _ rfl h
mutual
theorem Dv.exn (e : Exn H H') : ∀ {v : V} {d : PyData}, Dv H v d → Dv H' v d
  | _, _, .non => .non
  | _, _, .bl b => .bl b
  | _, _, .int i => .int i
  | _, _, .str x => .str x
  | _, _, .lst h t => .lst (e _ _ rfl h) (DvAll.exn e t)
  | _, _, .tup h t => .tup (e _ _ rfl h) (DvAll.exn e t)
  | _, _, .tuf h t => .tuf (e _ _ rfl h) (DvAll.exn e t)
  | _, _, .dic h t => .dic (e _ _ rfl h) (DvKv.exn e t)
theorem DvAll.exn (e : Exn H H') : ∀ {v : List V} {d : List PyData}, DvAll H v d → DvAll H' v d
  | _, _, .nil => .nil
  | _, _, .cons a b => .cons (Dv.exn e a) (DvAll.exn e b)
theorem DvKv.exn (e : Exn H H') : ∀ {v : List (Key × V)} {d : List (PyData × PyData)}, DvKv H v d → DvKv H' v d
  | _, _, .nil => .nil
  | _, _, .cons a b => .cons (Dv.exn e a) (DvKv.exn e b)
end
theorem Dv.ed {v : V} {d : PyData} (h : Dv H v d) (e : Ed P w c l T H H') : Dv H' v d := h.exn e.keep
theorem Tu.exn {a : Addr} {xs : List V} (h : Tu H a xs) (e : Exn H H') : Tu H' a xs := by
  rcases h with h | ⟨o, h⟩
  · exact .inl (e _ _ rfl h)
  · exact .inr ⟨o, e _ _ rfl h⟩
theorem Ti.exn {a : Addr} {xs : List V} (h : Ti H a xs) (e : Exn H H') : Ti H' a xs := by obtain ⟨o, h, d⟩ := h; exact ⟨o, e _ _ rfl h, d⟩
theorem Ti.ed {a : Addr} {xs : List V} (h : Ti H a xs) (e : Ed P w c l T H H') : Ti H' a xs := by obtain ⟨o, h, d⟩ := h; exact ⟨o, e.keep _ _ rfl h, d⟩
theorem Tu.ed {a : Addr} {xs : List V} (h : Tu H a xs) (e : Ed P w c l T H H') : Tu H' a xs := by
  rcases h with h | ⟨o, h⟩
  · exact .inl (e.keep _ _ rfl h)
  · exact .inr ⟨o, e.keep _ _ rfl h⟩
theorem sqL_ed {K : PySem.W.Frag} {a : Addr} {xs : List V} (e : Ed P w c l T H H') (h : SqL K H a xs) : SqL K H' a xs := by
  rcases h with (h | ⟨o, h⟩) | h
  · exact .inl (.inl (e.keep _ _ rfl h))
  · exact .inl (.inr ⟨o, e.keep _ _ rfl h⟩)
  · exact .inr h
end
section
variable {P : Program} {w : World} {H H' : Hp} {c d l : Addr} {T : Nat}
theorem stayU {h1 h2 : Heap} (x : phiU P w c l T h1) (k : ∀ o, h1.get? c = some o → h2.get? c = some o) : phiU P w c l T h2 := by
  obtain ⟨t, a, b, x⟩ := x
  refine ⟨t, a, b, ObjOk.stay x (fun b u hb e => ?_) (fun _ q => nomatch q) fun _ _ q => nomatch q⟩
  rcases hb with rfl | q
  · exact k u e
  · cases q
theorem stayL {h1 h2 : Heap} (x : phiL P w d h1) (k : ∀ o, h1.get? d = some o → h2.get? d = some o) : phiL P w d h2 := by
  obtain ⟨t, g, x⟩ := x
  refine ⟨t, g, ObjOk.stay x (fun b u hb e => ?_) (fun _ q => nomatch q) fun _ _ q => nomatch q⟩
  rcases hb with rfl | q
  · exact k u e
  · cases q
end
section
variable {X : Cx} {pins : List (Addr × Obj)} {σ : L2.St} {H : Hp} {s : Shared} {c l : Addr} {T : Nat}
theorem openU (I : Inv X pins σ H s) (h1 : H c = some (.ext (phiU X.prog X.w c l T))) (h2 : H l = some (.ext (phiL X.prog X.w l))) (hcl : l ≠ c) :
    ∃ (t : Int) (cs : List Int), 0 ≤ t ∧ t ≤ T ∧ CellsOk cs ∧ Inv X pins σ (upd (upd H c (.dK (urnKvs l t))) l (.lst (cs.map V.int))) s := by
  obtain ⟨⟨t, t0, t1, x1⟩, th1, _⟩ := I.hok c _ h1
  obtain ⟨⟨cs, g, x2⟩, th2, _⟩ := I.hok l _ h2
  have I1 := reword (o' := .dK (urnKvs l t)) I h1 trivial x1 th1
  have h3 : upd H c (.dK (urnKvs l t)) l = some (.ext (phiL X.prog X.w l)) := by rw [upd_ne hcl]; exact h2
  exact ⟨t, cs, t0, t1, g, reword (o' := .lst (cs.map V.int)) I1 h3 trivial x2 th2⟩
theorem closeU {t : Int} {cs : List Int} (I : Inv X pins σ H s) (h1 : H c = some (.dK (urnKvs l t))) (h2 : H l = some (.lst (cs.map V.int))) (t0 : 0 ≤ t) (t1 : t ≤ T) (g : CellsOk cs) (hcl : l ≠ c) :
    Inv X pins σ (upd (upd H c (.ext (phiU X.prog X.w c l T))) l (.ext (phiL X.prog X.w l))) s := by
  have x1 : ObjOk X.prog X.w H0 s.heap c (.dK (urnKvs l t)) := I.hok c _ h1
  have x2 : ObjOk X.prog X.w H0 s.heap l (.lst (cs.map V.int)) := I.hok l _ h2
  have I1 := reword (o' := .ext (phiU X.prog X.w c l T)) I h1 trivial ⟨⟨t, t0, t1, x1⟩, there_dK x1, fun _ _ p k => stayU p k⟩ (there_dK x1)
  have h3 : upd H c (.ext (phiU X.prog X.w c l T)) l = some (.lst (cs.map V.int)) := by rw [upd_ne hcl]; exact h2
  exact reword (o' := .ext (phiL X.prog X.w l)) I1 h3 trivial ⟨⟨cs, g, x2⟩, there_lst x2, fun _ _ p k => stayL p k⟩ (there_lst x2)
end
/-- a body that opens the urn, and closes it ahead of each return -/
def tUrn (P : Program) (w : World) (t : TS) : TS := fun D σ H => ∃ (c l : Addr) (T T2 : Nat), H c = some (.ext (phiU P w c l T)) ∧ H l = some (.ext (phiL P w l)) ∧ l ≠ c ∧
  ∀ (tm : Int) (cs : List Int), 0 ≤ tm → tm ≤ T → CellsOk cs → t ⟨fun _ _ => False, fun v H' => (∃ (tm' : Int) (cs' : List Int), H' c = some (.dK (urnKvs l tm')) ∧ H' l = some (.lst (cs'.map V.int)) ∧ 0 ≤ tm' ∧ tm' ≤ T2 ∧ CellsOk cs' ∧
    D.rt v (upd (upd H' c (.ext (phiU P w c l T2))) l (.ext (phiL P w l)))), fun _ _ => False, fun _ _ => False⟩ σ (upd (upd H c (.dK (urnKvs l tm))) l (.lst (cs.map V.int)))
theorem pss_urn {X : Cx} {st : List Stmt} {t : TS} (h : PSs X st t) : PSs X st (tUrn X.prog X.w t) := by
  refine ⟨fun pins s σ H D I hw => ?_⟩
  obtain ⟨c, l, T, T2, h1, h2, hcl, hw⟩ := hw
  obtain ⟨tm, cs, t0, t1, g, I1⟩ := openU I h1 h2 hcl
  refine thn (h.run pins s σ _ _ I1 (hw tm cs t0 t1 g)) fun f s1 q => ?_
  cases f with
  | next => obtain ⟨_, _, _, z⟩ := q; exact z.elim
  | brk => obtain ⟨_, _, _, z⟩ := q; exact z.elim
  | cont => obtain ⟨_, _, _, z⟩ := q; exact z.elim
  | ret v =>
    obtain ⟨x, σ', H', I2, r, tm', cs', e1, e2, t0', t1', g', z⟩ := q
    exact ⟨x, σ', _, closeU I2 e1 e2 t0' t1' g' hcl, r, z⟩
/-- a body that makes an urn closes it ahead of its return -/
def tShutU (P : Program) (w : World) (t : TS) : TS := fun D σ H => t ⟨fun _ _ => False, fun v H' => (∃ (c l : Addr) (tm : Int) (cs : List Int) (T : Nat), v = .ref c ∧ H' c = some (.dK (urnKvs l tm)) ∧ H' l = some (.lst (cs.map V.int)) ∧ 0 ≤ tm ∧ tm ≤ T ∧ CellsOk cs ∧ l ≠ c ∧
    D.rt v (upd (upd H' c (.ext (phiU P w c l T))) l (.ext (phiL P w l)))), fun _ _ => False, fun _ _ => False⟩ σ H
theorem pss_shutU {X : Cx} {st : List Stmt} {t : TS} (h : PSs X st t) : PSs X st (tShutU X.prog X.w t) := by
  refine ⟨fun pins s σ H D I hw => ?_⟩
  refine thn (h.run pins s σ _ _ I hw) fun f s1 q => ?_
  cases f with
  | next => obtain ⟨_, _, _, z⟩ := q; exact z.elim
  | brk => obtain ⟨_, _, _, z⟩ := q; exact z.elim
  | cont => obtain ⟨_, _, _, z⟩ := q; exact z.elim
  | ret v =>
    obtain ⟨x, σ', H', I2, r, c, l, tm, cs, T, rfl, e1, e2, t0, t1, g, hcl, z⟩ := q
    exact ⟨_, σ', _, closeU I2 e1 e2 t0 t1 g hcl, r, z⟩
/-! ### a list made turn by turn, the urn asked at each turn -/
/-- all but lists and what is told by ext stays -/
def Exd (H H' : Hp) : Prop := ∀ a o, noExt o = true → (∀ xs, o ≠ .lst xs) → H a = some o → H' a = some o
theorem Exd.of {H H' : Hp} (e : Exn H H') : Exd H H' := fun a o z _ h => e a o z h
theorem Exd.exl {H H' : Hp} (e : Exl H H') : Exd H H' := fun a o _ n h => e a o n h
theorem Exd.trans {H H1 H2 : Hp} (a : Exd H H1) (b : Exd H1 H2) : Exd H H2 := fun x o z n h => b x o z n (a x o z n h)
section
variable {P : Program} {w : World} {te : TE} {vs : List Nat} {σ : L2.St} {H1 : Hp} {D c l : Addr} {T : Nat} {Qd : Hp → Prop} {j : Nat}
theorem made_rangeD {n : Nat} (m : Nat) (M : Nat → V → Hp → Prop) (C : UrnAt P w H1 c l T) (hD : H1 D = none) (hn : n < 100000) (st : ∀ i v G G', Exd G G' → M i v G → M i v G')
    (hw : ∀ x, wipe ((wipe σ vs).set j (some x)) vs = wipe σ vs)
    (he : ∀ i : Nat, i < n → ∀ H', Ed P w c l (T + i * m) H1 H' → ∀ Q : VK, (∀ v H2, Ed P w c l (T + i * m + m) H' H2 → M i v H2 → Q v H2) → te ((wipe σ vs).set j (some (.int (i : Int)))) H' Q)
    (hd : ∀ (ys : List V) H', ys.length = n → Ed P w c l (T + n * m) H1 H' → H' D = some (.lst ys) → (∀ (k : Nat) (v : V), ys[k]? = some v → M k v H') → Qd H') :
    ∃ W : Nat → Nat → Hp → Prop, (∃ m, W 0 m (upd H1 D (.lst []))) ∧ ∀ i m H, W i m H →
      ((Itr 0 n).stop i H ∧ Qd H) ∨ ((Itr 0 n).go i H ∧ ∃ Nx : Hp → Prop, (∀ H', Nx H' → ∃ m', m' < m ∧ W (i + 1) m' H') ∧ ∀ x H', (Itr 0 n).yld i H x H' → gName j x (wipe σ vs) H' fun σ2 H2 => wipe σ2 vs = wipe σ vs ∧ tYes σ2 H2 fun b H3 =>
        if b = true then te σ2 H3 fun y H4 => ∃ acc, H4 D = some (.lst acc) ∧ acc.length < sizeLine ∧ Nx (upd H4 D (.lst (acc ++ [y]))) else Nx H3) := by
  refine lc_range (lo := 0) (n := n) (fun i H' => ∃ ys : List V, ys.length = i ∧ Ed P w c l (T + i * m) H1 H' ∧ H' D = some (.lst ys) ∧ ∀ (k : Nat) (v : V), ys[k]? = some v → M k v H') ?_ ?_ ?_
  · refine ⟨[], rfl, ?_, upd_same, fun k v z => by simp at z⟩
    rw [Nat.zero_mul]
    exact C.of (Evl.Ex.new hD)
  · rintro i H' hi ⟨ys, hl, e, hy, hm⟩
    have e0 : (0 : Int) + (i : Int) = (i : Int) := Int.zero_add _
    show wipe ((wipe σ vs).set j (some (.int (0 + (i : Int))))) vs = wipe σ vs ∧ tYes ((wipe σ vs).set j (some (.int (0 + (i : Int))))) H' _
    rw [e0]
    refine ⟨hw _, yesT (he i hi H' e _ fun v H2 e2 hv => ?_)⟩
    have g : Exd H2 (upd H2 D (.lst (ys ++ [v]))) := Exd.exl (Exl.grow (e2.sq hy))
    refine ⟨ys, e2.sq hy, by rw [hl]; exact Evl.sz_lt (by omega), ys ++ [v], by simp [hl], ?_, upd_same, fun k u hk => ?_⟩
    · have := Ed.mut (o := .lst (ys ++ [v])) (e.trans e2) hD
      rwa [show T + i * m + m = T + (i + 1) * m by rw [Nat.add_mul, Nat.one_mul, Nat.add_assoc]] at this
    · by_cases hk2 : k < ys.length
      · rw [List.getElem?_append_left hk2] at hk
        exact st k u H' _ ((Exd.of e2.keep).trans g) (hm k u hk)
      · have hz := (List.getElem?_eq_some_iff.mp hk).1
        have ek : k = i := by simp at hz; omega
        subst ek
        rw [List.getElem?_append_right (by omega), hl] at hk
        simp at hk
        subst hk
        exact st k v H2 _ g hv
  · rintro H' ⟨ys, hl, e, hy, hm⟩
    exact hd ys H' hl e hy hm
end
end Lr

namespace Lr
open PySem L2
/-- data: a list of ints -/
theorem dp_ints (K : PySem.W.Frag) (H : Hp) : ∀ ds : List Int, DpAll K H (ds.map V.int) (ds.map PyData.int)
  | [] => .nil
  | x :: r => .cons (.int x) (dp_ints K H r)
theorem lay_ints : ∀ ds : List Int, PyData.canLayAll0 (ds.map PyData.int) = true
  | [] => by simp [PyData.canLayAll0]
  | x :: r => by simp [PyData.canLayAll0, PyData.canLay0, lay_ints r]
theorem depth_ints : ∀ ds : List Int, PyData.depthAll (ds.map PyData.int) ≤ 1
  | [] => by simp [PyData.depthAll]
  | x :: r => by
    have := depth_ints r
    simp [PyData.depthAll, PyData.depth]
    omega
theorem shaped_ints (ds : List Int) : SeqAt.shaped (.list (ds.map PyData.int)) = true := by
  have h1 := depth_ints ds
  have h2 : (PyData.list (ds.map PyData.int)).depth ≤ 64 := by
    simp only [PyData.depth]
    omega
  have h3 : (PyData.list (ds.map PyData.int)).canLay0 = true := by
    simp only [PyData.canLay0]
    exact lay_ints ds
  unfold SeqAt.shaped
  rw [h3, decide_eq_true h2]
  rfl
theorem eqv_nil (ds : List Int) : PyData.eqv (.list (ds.map .int)) (.list []) = ds.isEmpty := by
  cases ds <;> simp [PyData.eqv, PyData.eqvAll]
/-- 0, 1, .. below n -/
def upto (n : Nat) : List Int := (List.range n).map Int.ofNat
theorem upto_len (n : Nat) : (upto n).length = n := by unfold upto; simp
theorem mem_upto {n : Nat} {x : Int} : x ∈ upto n ↔ 0 ≤ x ∧ x < n := by
  unfold upto
  simp only [List.mem_map, List.mem_range]
  constructor
  · rintro ⟨k, hk, rfl⟩
    exact ⟨Int.ofNat_nonneg _, by simpa using hk⟩
  · rintro ⟨h0, h1⟩
    exact ⟨x.toNat, by omega, by simp; omega⟩
theorem rgV_upto {n : Int} : rgV 0 n = (upto n.toNat).map V.int := by
  unfold rgV upto
  simp [List.map_map]
theorem erase_map {α β : Type} (f : α → β) : ∀ (l : List α) (i : Nat), (l.map f).eraseIdx i = (l.eraseIdx i).map f
  | [], _ => by simp
  | _ :: _, 0 => by simp
  | x :: r, i + 1 => by simp [erase_map f r i]
theorem erase_perm : ∀ (l : List Int) (i : Nat) (h : i < l.length), (l[i] :: l.eraseIdx i).Perm l
  | x :: r, 0, _ => by simp
  | x :: r, i + 1, h => by
    have h2 : i < r.length := by simpa using h
    simp only [List.getElem_cons_succ, List.eraseIdx_cons_succ]
    exact (List.Perm.swap x r[i] (r.eraseIdx i)).trans ((erase_perm r i h2).cons x)
theorem pick {rs : List Int} {r : Int} (h0 : 0 ≤ r) (h1 : r < (rs.length : Int)) : ∃ x, (rs.map V.int)[r.toNat]? = some (.int x) ∧ (rs.map V.int).eraseIdx r.toNat = (rs.eraseIdx r.toNat).map V.int ∧ (x :: rs.eraseIdx r.toNat).Perm rs ∧ seqIndex? r (rs.map V.int).length = some r.toNat := by
  have hr : r.toNat < rs.length := by omega
  refine ⟨rs[r.toNat], by rw [List.getElem?_map, List.getElem?_eq_getElem hr]; rfl, erase_map _ _ _, erase_perm rs _ hr, ?_⟩
  have h2 : ¬ r < 0 := by omega
  simp [seqIndex?, h0, h1, h2]
/-- a rule, as lists of numbers and as data -/
def RuleOk (n : Nat) (ps : List (List Int)) : Prop := 1 ≤ n ∧ ps.length = n + 1 ∧ ∀ p ∈ ps, p.Perm (upto n)
def prefD (p : List Int) : PyData := .tuple (p.map .int)
def ruleD (ps : List (List Int)) : PyData := .tuple (ps.map prefD)
/-- a preference of n lanes stands at v -/
def PrefAt (n : Nat) (v : V) (H : Hp) : Prop := ∃ (a : Addr) (ns : List Int), v = .ref a ∧ Ti H a (ns.map V.int) ∧ ns.Perm (upto n)
theorem Ti.exl {a : Addr} {xs : List V} {H H' : Hp} (e : Exl H H') (h : Ti H a xs) : Ti H' a xs := by obtain ⟨o, h, d⟩ := h; exact ⟨o, e _ _ frz_nolst h, d⟩
theorem Ti.exd {a : Addr} {xs : List V} {H H' : Hp} (e : Exd H H') (h : Ti H a xs) : Ti H' a xs := by obtain ⟨o, h, d⟩ := h; exact ⟨o, e _ _ rfl frz_nolst h, d⟩
theorem PrefAt.exl {n : Nat} {v : V} {H H' : Hp} (e : Exl H H') (h : PrefAt n v H) : PrefAt n v H' := by
  obtain ⟨a, ns, rfl, h1, h2⟩ := h
  exact ⟨a, ns, rfl, h1.exl e, h2⟩
theorem PrefAt.ex {n : Nat} {v : V} {H H' : Hp} (e : Ex H H') (h : PrefAt n v H) : PrefAt n v H' := h.exl (Exl.of e)
/-- a rule stands at v -/
def RuleAt (n : Nat) (ps : List (List Int)) (H : Hp) (v : V) : Prop := RuleOk n ps ∧ ∃ (ra : Addr) (xs : List V), v = .ref ra ∧ H ra = some (.tup xs) ∧ xs.length = n + 1 ∧
  ∀ (k : Nat) (x : V), xs[k]? = some x → ∃ (a : Addr) (pn : List Int), x = .ref a ∧ ps[k]? = some pn ∧ Ti H a (pn.map V.int)
theorem prefs_of {n : Nat} {H : Hp} : ∀ {xs : List V}, (∀ v ∈ xs, PrefAt n v H) → ∃ ps : List (List Int), ps.length = xs.length ∧ (∀ p ∈ ps, p.Perm (upto n)) ∧ ∀ (k : Nat) (x : V), xs[k]? = some x → ∃ (a : Addr) (pn : List Int), x = .ref a ∧ ps[k]? = some pn ∧ Ti H a (pn.map V.int)
  | [], _ => ⟨[], rfl, fun _ z => (nomatch z), fun k x h => by simp at h⟩
  | x :: r, h => by
    obtain ⟨a, ns, rfl, h1, h2⟩ := h x (by simp)
    obtain ⟨ps, p1, p2, p3⟩ := prefs_of (xs := r) fun v hv => h v (by simp [hv])
    refine ⟨ns :: ps, by simp [p1], fun p hp => ?_, fun k x hk => ?_⟩
    · rcases List.mem_cons.mp hp with rfl | hp
      · exact h2
      · exact p2 p hp
    · cases k with
      | zero => simp at hk; subst hk; exact ⟨a, ns, rfl, rfl, h1⟩
      | succ k => obtain ⟨b, pn, q1, q2, q3⟩ := p3 k x (by simpa using hk); exact ⟨b, pn, q1, by simpa using q2, q3⟩
/-- a tuple of so many of them is a rule -/
theorem rule_at {n : Nat} {H : Hp} {p : Addr} {xs : List V} (hn : 1 ≤ n) (hp : H p = some (.tup xs)) (hl : xs.length = n + 1) (h : ∀ v ∈ xs, PrefAt n v H) : ∃ ps, RuleAt n ps H (.ref p) := by
  obtain ⟨ps, p1, p2, p3⟩ := prefs_of h
  exact ⟨ps, ⟨hn, p1.trans hl, p2⟩, p, xs, rfl, hp, hl, p3⟩
theorem dv_of {H : Hp} : ∀ {xs : List V} {ps : List (List Int)}, xs.length = ps.length → (∀ (k : Nat) (x : V), xs[k]? = some x → ∃ (a : Addr) (pn : List Int), x = .ref a ∧ ps[k]? = some pn ∧ Ti H a (pn.map V.int)) → DvAll H xs (ps.map prefD)
  | [], [], _, _ => .nil
  | [], _ :: _, h, _ => by simp at h
  | _ :: _, [], h, _ => by simp at h
  | x :: r, p :: t, hl, h => by
    obtain ⟨a, pn, rfl, h2, h3⟩ := h 0 x rfl
    simp at h2
    subst h2
    exact .cons (h3.dv (dv_ints H p)) (dv_of (by simpa using hl) fun k x hk => by
      obtain ⟨b, pn, q1, q2, q3⟩ := h (k + 1) x (by simpa using hk)
      exact ⟨b, pn, q1, by simpa using q2, q3⟩)
section
variable {n : Nat} {ps : List (List Int)} {H H' : Hp} {v : V}
theorem RuleAt.dv (h : RuleAt n ps H v) : Dv H v (ruleD ps) := by
  obtain ⟨r, ra, xs, rfl, h1, h2, h3⟩ := h
  exact .tup h1 (dv_of (h2.trans r.2.1.symm) h3)
theorem RuleAt.exn (h : RuleAt n ps H v) (e : Exn H H') : RuleAt n ps H' v := by
  obtain ⟨r, ra, xs, rfl, h1, h2, h3⟩ := h
  refine ⟨r, ra, xs, rfl, e _ _ rfl h1, h2, fun k x hk => ?_⟩
  obtain ⟨a, pn, q1, q2, q3⟩ := h3 k x hk
  exact ⟨a, pn, q1, q2, q3.exn e⟩
theorem RuleAt.ex (h : RuleAt n ps H v) (e : Ex H H') : RuleAt n ps H' v := h.exn fun a o _ q => e a o q
theorem RuleAt.ed {P : Program} {w : World} {c l : Addr} {T : Nat} (h : RuleAt n ps H v) (e : Ed P w c l T H H') : RuleAt n ps H' v := h.exn e.keep
/-- the tuple itself, and its k-th preference -/
theorem RuleAt.get (h : RuleAt n ps H v) : ∃ (ra : Addr) (xs : List V), v = .ref ra ∧ H ra = some (.tup xs) ∧ xs.length = n + 1 ∧ ∀ k : Nat, k < n + 1 → ∃ (a : Addr) (pn : List Int), xs[k]? = some (.ref a) ∧ ps[k]? = some pn ∧ Ti H a (pn.map V.int) ∧ pn.Perm (upto n) := by
  obtain ⟨r, ra, xs, rfl, h1, h2, h3⟩ := h
  refine ⟨ra, xs, rfl, h1, h2, fun k hk => ?_⟩
  have lt : k < xs.length := by omega
  obtain ⟨a, pn, q1, q2, q3⟩ := h3 k xs[k] (List.getElem?_eq_getElem lt)
  exact ⟨a, pn, by rw [List.getElem?_eq_getElem lt, q1], q2, q3, r.2.2 pn (List.mem_of_getElem? q2)⟩
end
theorem turn_perm {n k : Nat} : ((upto n).drop k ++ (upto n).take k).Perm (upto n) := by
  have h := List.perm_append_comm (l₁ := (upto n).drop k) (l₂ := (upto n).take k)
  rw [List.take_append_drop] at h
  exact h
theorem end_perm {ns : List Int} {n : Nat} {k : Int} (h : ns.Perm (upto n)) (h0 : 0 ≤ k) (h1 : k < n) : (ns.filter (fun x => !decide (x = k)) ++ [k]).Perm (upto n) := by
  refine List.Perm.trans ?_ h
  have hk : k ∈ ns := h.mem_iff.mpr (mem_upto.mpr ⟨h0, h1⟩)
  have nd : ns.Nodup := h.nodup_iff.mpr (by
    unfold upto
    exact List.Pairwise.map _ (fun a b hab z => hab (Int.ofNat.inj z)) List.nodup_range)
  have e : ns.filter (fun x => !decide (x = k)) = ns.erase k := by
    rw [nd.erase_eq_filter]
    congr 1
  rw [e]
  exact (List.perm_append_comm.trans (List.perm_cons_erase hk).symm)
theorem filt_int {ns : List Int} {k : Int} : (ns.map V.int).filter (fun v => !decide (v = .int k)) = (ns.filter (fun x => !decide (x = k))).map V.int := by
  induction ns with
  | nil => rfl
  | cons x r ih =>
    by_cases hx : x = k
    · subst hx
      simp [ih]
    · have : ¬ V.int x = V.int k := fun z => hx (V.int.inj z)
      simp [hx, ih]
/-- numbers of some lanes -/
def InLanes (n : Nat) (ns : List Int) : Prop := ∀ x ∈ ns, 0 ≤ x ∧ x < n
theorem PrefAt.exd {n : Nat} {v : V} {H H' : Hp} (e : Exd H H') (h : PrefAt n v H) : PrefAt n v H' := by
  obtain ⟨a, ns, rfl, h1, h2⟩ := h
  exact ⟨a, ns, rfl, h1.exd e, h2⟩
theorem PrefAt.ed {P : Program} {w : World} {c l : Addr} {T n : Nat} {v : V} {H H' : Hp} (e : Ed P w c l T H H') (h : PrefAt n v H) : PrefAt n v H' := h.exd (Exd.of e.keep)
end Lr

namespace Lr
open PySem L2
/-! ### where a number stands first -/
def pos : List Int → Int → Nat
  | [], _ => 0
  | x :: r, c => if x = c then 0 else pos r c + 1
theorem pos_cons (x : Int) (r : List Int) (c : Int) : pos (x :: r) c = if x = c then 0 else pos r c + 1 := rfl
theorem pos_get : ∀ {l : List Int} {c : Int}, c ∈ l → l[pos l c]? = some c
  | x :: r, c, h => by
    unfold pos
    by_cases q : x = c
    · rw [if_pos q, q]; rfl
    · rw [if_neg q]
      rcases List.mem_cons.mp h with z | z
      · exact absurd z.symm q
      · simpa using pos_get z
theorem pos_no : ∀ {l : List Int} {c : Int} {m : Nat}, m < pos l c → l[m]? ≠ some c
  | [], c, m, h => by simp [pos] at h
  | x :: r, c, m, h => by
    unfold pos at h
    by_cases q : x = c
    · rw [if_pos q] at h; omega
    · rw [if_neg q] at h
      cases m with
      | zero => simp; exact q
      | succ m => simpa using pos_no (l := r) (c := c) (m := m) (by omega)
theorem pos_lt {l : List Int} {c : Int} (h : c ∈ l) : pos l c < l.length := (List.getElem?_eq_some_iff.mp (pos_get h)).1
theorem pos_nd {l : List Int} {c : Int} {k : Nat} (nd : l.Nodup) (h : l[k]? = some c) : pos l c = k := by
  have hk := (List.getElem?_eq_some_iff.mp h)
  have hp := (List.getElem?_eq_some_iff.mp (pos_get (List.mem_of_getElem? h)))
  obtain ⟨hk1, hk2⟩ := hk
  obtain ⟨hp1, hp2⟩ := hp
  exact nd_inj nd hp1 hk1 (hp2.trans hk2.symm)
theorem mem_take : ∀ {l : List Int} {c : Int} {k : Nat}, c ∈ l.take k ↔ c ∈ l ∧ pos l c < k
  | [], c, k => by simp
  | x :: r, c, 0 => by simp
  | x :: r, c, k + 1 => by
    rw [List.take_succ_cons, List.mem_cons, List.mem_cons, mem_take (l := r) (c := c) (k := k)]
    rw [pos_cons]
    by_cases q : x = c
    · rw [if_pos q]
      constructor
      · intro _; exact ⟨.inl q.symm, by omega⟩
      · intro _; exact .inl q.symm
    · rw [if_neg q]
      constructor
      · rintro (z | ⟨z1, z2⟩)
        · exact absurd z.symm q
        · exact ⟨.inr z1, by omega⟩
      · rintro ⟨z | z, z2⟩
        · exact absurd z.symm q
        · exact .inr ⟨z, by omega⟩
theorem rgL_upto (n : Nat) : rgL 0 n = upto n := by
  unfold rgL upto
  apply List.map_congr_left
  intro i _
  simp
theorem upto_nd (n : Nat) : (upto n).Nodup := by
  unfold upto
  exact List.Pairwise.map _ (fun a b hab z => hab (Int.ofNat.inj z)) List.nodup_range
def lane (rs : List Int) (o : Int) : Int := rs.getD o.toNat 0
theorem lane_at {rs : List Int} {o : Int} (h0 : 0 ≤ o) (h1 : o < rs.length) : atI (rs.map V.int) o = some (.int (lane rs o)) := by
  have lt : o.toNat < rs.length := by omega
  have e : ((o.toNat : Nat) : Int) = o := by omega
  have := atI_nat (xs := rs.map V.int) (j := o.toNat) (v := .int (lane rs o)) (by
    rw [List.getElem?_map, List.getElem?_eq_getElem lt]
    unfold lane
    rw [List.getD_eq_getElem?_getD, List.getElem?_eq_getElem lt]
    rfl)
  rwa [e] at this
/-! ### sorted lists of ints -/
def srt (cs : List Int) : List Int := cs.mergeSort fun a b => decide (a ≤ b)
theorem srt_perm (cs : List Int) : (srt cs).Perm cs := List.mergeSort_perm _ _
theorem srt_le (cs : List Int) : (srt cs).Pairwise (· ≤ ·) := by
  have := List.pairwise_mergeSort (le := fun a b : Int => decide (a ≤ b)) (fun a b c h1 h2 => by simp at *; omega) (fun a b => by simp; omega) cs
  exact this.imp fun h => by simpa using h
theorem le_uniq {as bs : List Int} (p : as.Perm bs) (a : as.Pairwise (· ≤ ·)) (b : bs.Pairwise (· ≤ ·)) : as = bs := p.eq_of_pairwise (le := (· ≤ ·)) (fun x y _ _ h1 h2 => Int.le_antisymm h1 h2) a b
theorem srt_eq {cs ys : List Int} (p : ys.Perm cs) (h : ys.Pairwise (· ≤ ·)) : ys = srt cs := le_uniq (p.trans (srt_perm cs).symm) h (srt_le cs)
theorem cr_sortL {X : Cx} {K : PySem.W.Frag} (hK : X.K = K) : CallR X (.builtin "sorted") (rSorted K) := by
  subst hK
  exact cr_sorted
theorem inV_ints (c : Int) (xs : List Int) : inV (.int c) (xs.map V.int) = decide (c ∈ xs) := by
  unfold inV
  rw [List.any_map]
  induction xs with
  | nil => simp
  | cons x r ih =>
    simp only [List.any_cons, ih, List.mem_cons, Function.comp]
    show (x == c || decide (c ∈ r)) = _
    by_cases h : x = c
    · simp [h]
    · have : ¬ c = x := fun z => h z.symm
      simp [h, this]
/-! ### which lane goes before -/
def gb (pn : List Int) (x y : Int) : Bool := decide (x ≠ y) && decide (pos pn x < pos pn y)
theorem fore_of : ∀ {pn : List Int} {x y : Int}, x ∈ pn → y ∈ pn → x ≠ y → ∃ z rest, pn.filter (fun c => decide (c ∈ [x, y])) = z :: rest ∧ decide (z = x) = decide (pos pn x < pos pn y)
  | c :: r, x, y, hx, hy, hne => by
    by_cases h1 : c = x
    · subst h1
      refine ⟨c, _, List.filter_cons_of_pos (by simp), ?_⟩
      rw [pos_cons, pos_cons, if_pos rfl, if_neg hne]
      simp
    · by_cases h2 : c = y
      · subst h2
        refine ⟨c, _, List.filter_cons_of_pos (by simp), ?_⟩
        rw [pos_cons, pos_cons, if_pos rfl, if_neg h1]
        simp [h1]
      · obtain ⟨z, rest, h3, h4⟩ := fore_of (pn := r) (x := x) (y := y) (by rcases List.mem_cons.mp hx with q | q; exact absurd q.symm h1; exact q) (by rcases List.mem_cons.mp hy with q | q; exact absurd q.symm h2; exact q) hne
        refine ⟨z, rest, ?_, ?_⟩
        · rw [List.filter_cons_of_neg (by simp [h1, h2])]
          exact h3
        · rw [h4, pos_cons, pos_cons, if_neg h1, if_neg h2]
          simp
/-! ### the first cars of the lanes -/
def fstc (rs : List Int) : List Int → List Int → List Int
  | _, [] => []
  | seen, c :: t => if lane rs c ∈ seen then fstc rs seen t else c :: fstc rs (seen ++ [lane rs c]) t
theorem fstc_mem {rs : List Int} : ∀ {cs seen : List Int} {o : Int}, cs.Pairwise (· < ·) → (o ∈ fstc rs seen cs ↔ o ∈ cs ∧ lane rs o ∉ seen ∧ ∀ p ∈ cs, p < o → lane rs p ≠ lane rs o)
  | [], seen, o, _ => by simp [fstc]
  | c :: t, seen, o, hs => by
    obtain ⟨hc, ht⟩ := List.pairwise_cons.mp hs
    unfold fstc
    by_cases h : lane rs c ∈ seen
    · rw [if_pos h, fstc_mem ht]
      constructor
      · rintro ⟨h1, h2, h3⟩
        refine ⟨List.mem_cons_of_mem _ h1, h2, fun p hp hpo => ?_⟩
        rcases List.mem_cons.mp hp with rfl | hp
        · exact fun z => h2 (z ▸ h)
        · exact h3 p hp hpo
      · rintro ⟨h1, h2, h3⟩
        rcases List.mem_cons.mp h1 with rfl | h1
        · exact absurd h h2
        · exact ⟨h1, h2, fun p hp hpo => h3 p (List.mem_cons_of_mem _ hp) hpo⟩
    · rw [if_neg h, List.mem_cons, fstc_mem ht]
      constructor
      · rintro (rfl | ⟨h1, h2, h3⟩)
        · refine ⟨List.mem_cons_self, h, fun p hp hpo => ?_⟩
          rcases List.mem_cons.mp hp with rfl | hp
          · omega
          · have := hc p hp; omega
        · simp only [List.mem_append, List.mem_singleton, not_or] at h2
          refine ⟨List.mem_cons_of_mem _ h1, h2.1, fun p hp hpo => ?_⟩
          rcases List.mem_cons.mp hp with rfl | hp
          · exact fun z => h2.2 z.symm
          · exact h3 p hp hpo
      · rintro ⟨h1, h2, h3⟩
        rcases List.mem_cons.mp h1 with rfl | h1
        · exact .inl rfl
        · refine .inr ⟨h1, ?_, fun p hp hpo => h3 p (List.mem_cons_of_mem _ hp) hpo⟩
          simp only [List.mem_append, List.mem_singleton, not_or]
          exact ⟨h2, fun z => h3 c List.mem_cons_self (hc o h1) z.symm⟩
theorem fstc_sub {rs : List Int} : ∀ {cs seen : List Int}, (fstc rs seen cs).Sublist cs
  | [], _ => by simp [fstc]
  | c :: t, seen => by
    unfold fstc
    by_cases h : lane rs c ∈ seen
    · rw [if_pos h]; exact (fstc_sub (cs := t)).cons c
    · rw [if_neg h]; exact (fstc_sub (cs := t)).cons₂ c
/-- the first one with this lane -/
theorem first_lane_mem {rs : List Int} {L : Int} : ∀ {cs : List Int} {o : Int}, cs.Pairwise (· < ·) → (o ∈ (cs.filter fun c => decide (V.int (lane rs c) = V.int L)).take 1 ↔ o ∈ cs ∧ lane rs o = L ∧ ∀ p ∈ cs, p < o → lane rs p ≠ lane rs o)
  | [], o, _ => by simp
  | c :: t, o, hs => by
    obtain ⟨hc, ht⟩ := List.pairwise_cons.mp hs
    by_cases h : lane rs c = L
    · rw [List.filter_cons_of_pos (by simp [h]), List.take_succ_cons, List.take_zero, List.mem_singleton]
      constructor
      · rintro rfl
        refine ⟨List.mem_cons_self, h, fun p hp hpo => ?_⟩
        rcases List.mem_cons.mp hp with rfl | hp
        · omega
        · have := hc p hp; omega
      · rintro ⟨h1, h2, h3⟩
        rcases List.mem_cons.mp h1 with rfl | h1
        · rfl
        · exact absurd (h.trans h2.symm) (h3 c List.mem_cons_self (hc o h1))
    · rw [List.filter_cons_of_neg (by simp; exact h), first_lane_mem ht]
      constructor
      · rintro ⟨h1, h2, h3⟩
        refine ⟨List.mem_cons_of_mem _ h1, h2, fun p hp hpo => ?_⟩
        rcases List.mem_cons.mp hp with rfl | hp
        · exact fun z => h (z.trans h2)
        · exact h3 p hp hpo
      · rintro ⟨h1, h2, h3⟩
        rcases List.mem_cons.mp h1 with rfl | h1
        · exact absurd h2 h
        · exact ⟨h1, h2, fun p hp hpo => h3 p (List.mem_cons_of_mem _ hp) hpo⟩
theorem lt_of_srt {cs : List Int} (nd : cs.Nodup) : (srt cs).Pairwise (· < ·) := by
  have h1 := srt_le cs
  have h2 : (srt cs).Nodup := (srt_perm cs).nodup_iff.mpr nd
  exact h1.imp₂ (fun a b h3 h4 => by omega) h2
theorem nodup_fm {f : Int → List Int} : ∀ {l : List Int}, l.Nodup → (∀ a, (f a).Nodup) → (∀ a b o, a ≠ b → o ∈ f a → o ∈ f b → False) → (l.flatMap f).Nodup
  | [], _, _, _ => by simp
  | x :: r, nd, h1, h2 => by
    obtain ⟨hx, hr⟩ := List.nodup_cons.mp nd
    rw [List.flatMap_cons]
    refine List.nodup_append.mpr ⟨h1 x, nodup_fm hr h1 h2, fun a ha b hb hab => ?_⟩
    subst hab
    obtain ⟨y, hy, hy2⟩ := List.mem_flatMap.mp hb
    exact h2 x y a (fun z => hx (z ▸ hy)) ha hy2
/-- the rivals at a place: left are those that have not passed, x passes, pn is the preference -/
def rivs (rs pn left : List Int) (x : Int) : List Int := (fstc rs [] (srt left)).filter fun o => gb pn (lane rs o) (lane rs x)
def hereOf (rs pn left : List Int) (x : Int) : List Int := (pn.take (pos pn (lane rs x))).flatMap fun L => ((srt left).filter fun c => decide (V.int (lane rs c) = V.int L)).take 1
theorem rivs_here {rs pn left : List Int} {x : Int} (nd : left.Nodup) (np : pn.Nodup) (hl : ∀ o ∈ left, lane rs o ∈ pn) : (hereOf rs pn left x).Perm (rivs rs pn left x) := by
  have hlt := lt_of_srt nd
  have ns : (srt left).Nodup := (srt_perm left).nodup_iff.mpr nd
  refine (List.perm_ext_iff_of_nodup ?_ ?_).mpr fun o => ?_
  · exact nodup_fm ((List.take_sublist _ _).nodup np) (fun L => ((List.take_sublist _ _).trans List.filter_sublist).nodup ns) fun a b o hab ho ho2 => hab (((first_lane_mem hlt).mp ho).2.1.symm.trans ((first_lane_mem hlt).mp ho2).2.1)
  · unfold rivs
    exact (List.filter_sublist.trans fstc_sub).nodup ns
  · unfold hereOf rivs
    rw [List.mem_flatMap, List.mem_filter, fstc_mem hlt]
    constructor
    · rintro ⟨L, hL, ho⟩
      obtain ⟨h1, h2, h3⟩ := (first_lane_mem hlt).mp ho
      obtain ⟨g1, g2⟩ := mem_take.mp hL
      subst h2
      refine ⟨⟨h1, List.not_mem_nil, h3⟩, ?_⟩
      unfold gb
      rw [Bool.and_eq_true]
      exact ⟨decide_eq_true (fun z => by rw [z] at g2; omega), decide_eq_true g2⟩
    · rintro ⟨⟨h1, _, h3⟩, h4⟩
      unfold gb at h4
      rw [Bool.and_eq_true] at h4
      have hin := hl o ((srt_perm left).mem_iff.mp h1)
      exact ⟨lane rs o, mem_take.mpr ⟨hin, of_decide_eq_true h4.2⟩, (first_lane_mem hlt).mpr ⟨h1, rfl, h3⟩⟩
theorem rivs_le {rs pn left : List Int} {x : Int} : (rivs rs pn left x).Pairwise (· ≤ ·) := List.Pairwise.sublist (List.filter_sublist.trans fstc_sub) (srt_le left)
end Lr

namespace Lr
open PySem L2
/-! ### errors of own classes that are kept in names and lists -/
/-- an error stands at e: of the class C, with one field or none -/
def ErAt (H : Hp) (e C : Addr) : Option (Str × V) → Prop
  | none => H e = some (exo e C none)
  | some (f, y) => ∃ d, H e = some (exo e C (some d)) ∧ H d = some (exd d [(f, y)])
theorem ErAt.mono {H H' : Hp} {e C : Addr} {o : Option (Str × V)} (x : Ex H H') (h : ErAt H e C o) : ErAt H' e C o := by
  cases o with
  | none => exact x _ _ h
  | some p =>
    obtain ⟨d, a, b⟩ := h
    exact ⟨d, x _ _ a, x _ _ b⟩
/-- what a class must have so that its instances can be asked -/
structure IsC (K : PySem.W.Frag) (C : Addr) : Prop where
  cl : (PySem.W.clsIn K C).isSome = true
  ga : PySem.W.findIn K (.ref C) "__getattribute__" = some (some (.builtin "BaseException.__getattribute__"))
  gg : PySem.W.findIn K (.ref C) "__getattr__" = some none
  sb : PySem.W.subIn K (.ref C) (.type "BaseException") = some true
  ca : PySem.W.findIn K (.ref C) "__class__" = some (some (.builtin "object.__class__"))
  sp : PySem.W.specialIn K (.builtin "object.__class__") "__get__" = some (some (.builtin "getset_descriptor.__get__"))
  tk : PySem.W.takesIn K (.builtin "object.__class__") = some true
  mr : PySem.W.mroIn K C (.type "object") = some true
def isCB (K : PySem.W.Frag) (C : Addr) : Bool := (PySem.W.clsIn K C).isSome && (decide (PySem.W.findIn K (.ref C) "__getattribute__" = some (some (.builtin "BaseException.__getattribute__"))) && (decide (PySem.W.findIn K (.ref C) "__getattr__" = some none) &&
  (decide (PySem.W.subIn K (.ref C) (.type "BaseException") = some true) && (decide (PySem.W.findIn K (.ref C) "__class__" = some (some (.builtin "object.__class__"))) && (decide (PySem.W.specialIn K (.builtin "object.__class__") "__get__" = some (some (.builtin "getset_descriptor.__get__"))) &&
  (decide (PySem.W.takesIn K (.builtin "object.__class__") = some true) && decide (PySem.W.mroIn K C (.type "object") = some true)))))))
theorem isCB_ok {K : PySem.W.Frag} {C : Addr} (h : isCB K C = true) : IsC K C := by
  obtain ⟨h1, h⟩ := Bool.and_eq_true_iff.mp h
  obtain ⟨h2, h⟩ := Bool.and_eq_true_iff.mp h
  obtain ⟨h3, h⟩ := Bool.and_eq_true_iff.mp h
  obtain ⟨h4, h⟩ := Bool.and_eq_true_iff.mp h
  obtain ⟨h5, h⟩ := Bool.and_eq_true_iff.mp h
  obtain ⟨h6, h⟩ := Bool.and_eq_true_iff.mp h
  obtain ⟨h7, h8⟩ := Bool.and_eq_true_iff.mp h
  exact ⟨h1, of_decide_eq_true h2, of_decide_eq_true h3, of_decide_eq_true h4, of_decide_eq_true h5, of_decide_eq_true h6, of_decide_eq_true h7, of_decide_eq_true h8⟩
section
variable {X : Cx}
/-- the instance in the heap -/
theorem inst_at {P : Program} {w : World} {H : Hp} {h : Heap} {e C : Addr} {o : Option (Str × V)} (hok : HOk P w H h) (he : ErAt H e C o) : ∃ ox od, PySem.W.InstAt h e ox C od := by
  cases o with
  | none =>
    obtain ⟨t, ho⟩ := exo_at hok he
    exact ⟨_, none, ho, rfl, rfl, trivial⟩
  | some p =>
    obtain ⟨d, ha, hd⟩ := he
    obtain ⟨t, ho⟩ := exo_at hok ha
    obtain ⟨mA, ⟨od, _, _, hod, _⟩, _⟩ := exd_at hok hd
    exact ⟨_, some od, ho, rfl, rfl, hod⟩
/-- isinstance(e, c) -/
def rIsEr (K : PySem.W.Frag) : List V → Hp → VK → Prop := fun xs H Q => ∃ (e C : Addr) (o : Option (Str × V)) (c : V) (cv : Value) (b : Bool), xs = [.ref e, c] ∧ ErAt H e C o ∧ IsC K C ∧ (∀ u, RelV c u → u = cv) ∧ PySem.W.kitOne K (.ref C) cv = some b ∧ Q (.bl b) H
theorem k_isEr {K : PySem.W.Frag} (hK : X.K = K) : CallR X (.builtin "isinstance") (rIsEr K) := by
  subst hK
  intro pins s σ H xs us Q I r h
  obtain ⟨e, C, o, c, cv, b, rfl, he, T, hcv, ek, q⟩ := h
  cases r with
  | cons rx rr =>
    cases rr with
    | cons rt rr =>
      cases rr
      cases rx
      have ec := hcv _ rt
      subst ec
      obtain ⟨ox, od, J⟩ := inst_at I.hok he
      exact PySem.W.kia_one (PySem.W.kitx_exc (ox := ox) (od := od) T.cl T.ga T.gg T.sb T.ca T.sp T.tk T.mr) I.kIn J ek (fun z => nomatch z) fun tk => ⟨.bl b, H, I.kept (t' := tk) fun _ _ z => z, rfl, q⟩
/-- e.f -/
def tErf (K : PySem.W.Frag) (f : Str) (te : TE) : TE := fun σ H Q => te σ H fun x H1 => ∃ (a C : Addr) (v : V), x = .ref a ∧ ErAt H1 a C (some (f, v)) ∧ XfC K C ∧ PySem.W.findIn K (.ref C) f = some none ∧ Q v H1
theorem pe_erf {K : PySem.W.Frag} {e : Expr} {te : TE} {pos : Pos} {n : Str} (hK : X.K = K) (he : PE X e te) (hb : attributeBase e n X.env (eval e X.env) = eval e X.env := by rfl) : PE X (.Attribute e n pos) (tErf K n te) := by
  subst hK
  refine ⟨fun pins s σ H Q I h => ?_⟩
  refine attr_of hb (thn (he.run pins s σ H _ I h) fun u s1 hh => ?_)
  obtain ⟨x, H1, I1, rx, a, C, v, ex, ⟨d, ha, hd⟩, T, hno, q⟩ := hh
  subst ex
  obtain rfl : u = Value.ref a := rx
  obtain ⟨t, ho⟩ := exo_at I1.hok ha
  obtain ⟨mA, hns, hr⟩ := exd_at I1.hok hd
  obtain ⟨od, hod, hl⟩ := lookIn_ns hns
  obtain ⟨u, hu, ru⟩ := RelO.some_of (v := v) (o := mA n) (by have z := hr n; rw [lookup_put, if_pos rfl] at z; exact z)
  exact HandSPX.exc_get I1.kIn (od := some od) ⟨ho, rfl, rfl, hod⟩ T.ga T.gg T.exC (PySem.W.findObj_own T.hdC hno rfl (by rw [hl, hu])) (handed_of ru) ⟨v, H1, I1.tok _, ru, q⟩
end
/-! ### made with one field by an own __init__ -/
def spInit (K : PySem.W.Frag) (f : Str) : Sp := fun vs H Q _ => ∃ (a C : Addr) (y : V), vs = [.ref a, y] ∧ OexC K C ∧ PySem.W.findIn K (.ref C) f = some none ∧ H a = some (exo a C none) ∧ ∀ d, H d = none → d ≠ a → Q .non (upd (upd H d (exd d [(f, y)])) a (exo a C (some d)))
def Er1 (P : Program) (w : World) (K : PySem.W.Frag) (mg : Str → Option Value) (base : Heap) (x : Str) (C : Addr) (f : Str) : Prop :=
  OexC K C ∧ mg x = some (.ref C) ∧ PySem.W.findIn K (.ref C) f = some none ∧ XfC K C ∧ IsC K C ∧ ∃ fI fd, PySem.W.findIn K (.ref C) "__init__" = some (some (.ref fI)) ∧ PySem.W.typeIn K (.ref fI) = some (.type "function") ∧ FnOk P w K mg base CX0 1 fI fd ["self", f] (spInit K f) ∧ Binds K fd ["self", f] []
/-- C(e) -/
def tMk1 (C : Addr) (f : Str) (te : TE) : TE := fun σ H Q => te σ H fun y H1 => ∀ a H2, Ex H1 H2 → H1 a = none → ErAt H2 a C (some (f, y)) → Q (.ref a) H2
theorem pe_mk1 {X : Cx} {x f : Str} {C : Addr} {e : Expr} {te : TE} {p pos : Pos} (E : Er1 X.prog X.w X.K X.mg X.base x C f) (hr : Room 2 X.A) (hg : Gl X x) (hE : PE X e te)
    (hdb : (x == ("__debug__" : Str)) = false := by decide) (he : starEach [e] X.env = (false, eval e X.env) :: starEach [] X.env := by rfl) (hpl : (backTo pos (starEach [] X.env)).any (·.1) = false := by rfl) :
    PE X (.Call (.Name x p) [e] [] pos) (tMk1 C f te) := by
  obtain ⟨T, hm, hno, _, _, fI, fd, iC, tI, F1, hb⟩ := E
  have ha : PA X [e] (tCons te tNil) := pa_cons hE pa_nil he
  refine ⟨fun pins s σ H Q I h => ?_⟩
  obtain ⟨nm, q, N, bs, bm, sn, sub, ab, col, dd, k0, k1, k2, k3, k5, hC, hbm⟩ := T.cls
  refine wpAny_Call_Name_kw (ld_glob I hg hm ?_ hdb)
  refine PySem.W.callWith_K (h₀ := X.base) I.ok.mod.kin T.kC (thn (ha.run pos pins s σ H (fun vs H1 => match vs with | [y] => ∀ a H2, Ex H1 H2 → H1 a = none → ErAt H2 a C (some (f, y)) → Q (.ref a) H2 | _ => False) I h) fun us s1 ⟨vs, H1, I1, r1, q1⟩ => ⟨I1.kIn, ?_⟩) he hpl
  obtain ⟨y, rfl⟩ : ∃ y, vs = [y] := by
    match vs, q1 with
    | [y], _ => exact ⟨y, rfl⟩
  show wpAny _ _ (call (.ref C) us) _ _ _
  obtain ⟨hp, g, dr, tk, os⟩ := s1
  have hsz : hp.objs.size ≤ hp.objs.size + 1 := Nat.le_succ _
  have hn : H1 (hp.objs.size + 1) = none := I1.hok.fresh hsz
  have kk : ∀ b o, hp.get? b = some o → ((hp.push (PySem.W.kdv_tup us)).push (PySem.HandSPX.excO C hp.objs.size)).get? b = some o := fun b o e => Heap.get?_push_of_some _ (Heap.get?_push_of_some _ e)
  have hget : ((hp.push (PySem.W.kdv_tup us)).push (PySem.HandSPX.excO C hp.objs.size)).get? (hp.objs.size + 1) = some (PySem.HandSPX.excO C hp.objs.size) := by heap_get
  have I2 : Inv X pins σ (upd H1 (hp.objs.size + 1) (exo (hp.objs.size + 1) C none)) ⟨(hp.push (PySem.W.kdv_tup us)).push (PySem.HandSPX.excO C hp.objs.size), g, dr, tk, os⟩ :=
    I1.laid (t' := tk) (a := hp.objs.size + 1) (o := exo (hp.objs.size + 1) C none) (h' := (hp.push (PySem.W.kdv_tup us)).push (PySem.HandSPX.excO C hp.objs.size)) kk hsz (exo_ok hget)
  have r2 : Vals (V.ref (hp.objs.size + 1) :: [y]) (Value.ref (hp.objs.size + 1) :: us) := .cons rfl r1
  have hl : (Value.ref (hp.objs.size + 1) :: us).length = ([("self" : Str), f]).length := r2.length.symm
  have hus : us.length ≤ sizeLine := by
    rw [← Paired.length r1, sizeLine_eq]
    show 1 ≤ _
    omega
  generalize hap : hp.objs.size + 1 = a at hn hget I2 r2 hl hsz ⊢
  have hq : spInit X.K f (V.ref a :: [y]) (upd H1 a (exo a C none)) (fun v H2 => v = .non ∧ Q (.ref a) H2) E0 := by
    refine ⟨a, C, y, rfl, T, hno, upd_same, fun d hd nd => ⟨rfl, ?_⟩⟩
    have nd1 : H1 d = none := by rw [upd_ne nd] at hd; exact hd
    refine q1 a _ (fun b o hbo => ?_) hn ⟨d, upd_same, ?_⟩
    · rw [upd_ne (ne_of_none hbo hn), upd_ne (ne_of_none hbo nd1), upd_ne (ne_of_none hbo hn)]
      exact hbo
    · rw [upd_ne nd, upd_same]
  have hcall := F1.run ((X.A.under (.builtin "type.__call__" ⟨.ref C :: us, []⟩))) X.stack _ _ ⟨Value.ref a :: us, []⟩ (Value.ref a :: us) _ _ E0 ((hr.mono (by decide)).make C us []) (I2.env0.make C us []) (by have z := hb _ (Value.ref a :: us) I2.kIn (by rw [List.append_nil]; exact hl); rw [List.append_nil] at z; exact z) r2 hq
  subst hap
  refine wpAny_call (PySem.HandSPX.call_own F.excBase_ValueError (fun Y => PySem.HandSPX.refsVE_contains Y bm hbm) (I1.kIn _ _ hC) (PySem.W.looks_findIn I1.kIn iC) (fun self => PySem.W.bind_fn I1.kIn self tI) hus
    (codeAny_mono hcall fun r s' hq' => ?_))
  cases r with
  | error er => exact hq'.elim
  | ok fl =>
    cases fl with
    | ret u =>
      obtain ⟨v, H2, J, rv, ev, q2⟩ := I2.after hq'
      subst ev
      exact ⟨rv, .ref (hp.objs.size + 1), H2, J, rfl, q2⟩
    | next => exact False.elim hq'
    | brk => exact False.elim hq'
    | cont => exact False.elim hq'
/-! ### made without arguments -/
def Er0 (K : PySem.W.Frag) (mg : Str → Option Value) (x : Str) (C : Addr) : Prop := mg x = some (.ref C) ∧ PySem.W.keepIn K (.ref C) = true ∧ PySem.W.excIn K C PySem.HandSPX.veTail "ValueError.__new__" = true ∧ IsC K C
def tMk0 (C : Addr) : TE := fun σ H Q => ∀ a H2, Ex H H2 → H a = none → ErAt H2 a C none → Q (.ref a) H2
theorem pe_mk0 {X : Cx} {x : Str} {C : Addr} {p pos : Pos} (E : Er0 X.K X.mg x C) (hg : Gl X x) (hdb : (x == ("__debug__" : Str)) = false := by decide) : PE X (.Call (.Name x p) [] [] pos) (tMk0 C) := by
  obtain ⟨hm, kC, q, _⟩ := E
  refine ⟨fun pins s σ H Q I h => ?_⟩
  refine wpAny_Call_Name_kw (ld_glob I hg hm ?_ hdb)
  refine PySem.W.callWith_K0 I.kIn kC ?_
  show wpAny _ _ (call (.ref C) []) _ _ _
  obtain ⟨bm, N, nm, qn, bs, hdct, sn, sub, ab, col, dd, k0, k1, k2, k3, k5, mN, hC, hN, hni, T⟩ := exc_obj I.kIn q
  obtain ⟨hp, g, d, t, os⟩ := s
  refine wpAny_call_exc_subT F.excBase_ValueError T hC hN hni (fun h' e hx => ?_) (by decide)
  have hn : H e = none := I.hok.gone hx.new
  obtain ⟨t1, he, _, _⟩ := hx.there
  have J : Inv X pins σ (upd H e (exo e C none)) ⟨h', g, d, t, os⟩ := I.laidN (t' := t) (o := exo e C none) hx.keeps hx.new hn (exo_ok he)
  exact ⟨.ref e, _, J, rfl, h e _ (Evl.Ex.new hn) hn upd_same⟩
end Lr

namespace Lr
open PySem L2 PySem.Spec PyProof.Rows
/-! ### part of a heap -/
open Classical in
noncomputable def hide (O : Addr → Prop) (H : Hp) : Hp := fun a => if O a then none else H a
section
variable {O O' : Addr → Prop} {H H' : Hp} {a p : Addr} {o : HO}
theorem hide_of (n : ¬ O a) : hide O H a = H a := if_neg n
theorem hide_yes (n : O a) : hide O H a = none := if_pos n
theorem hide_some (h : hide O H a = some o) : ¬ O a ∧ H a = some o := by
  by_cases n : O a
  · rw [hide_yes n] at h; cases h
  · rw [hide_of n] at h; exact ⟨n, h⟩
theorem hide_ex : Ex (hide O H) H := fun a o h => (hide_some h).2
theorem hide_mono (e : Ex H H') : Ex (hide O H) (hide O H') := fun a o h => by
  have q := hide_some h
  rw [hide_of q.1]; exact e _ _ q.2
theorem hide_le (h : ∀ a, O' a → O a) : Ex (hide O H) (hide O' H) := fun a o e => by
  have q := hide_some e
  rw [hide_of (fun z => q.1 (h a z))]; exact q.2
theorem hide_upd (hp : O p) : Ex (hide O H) (hide O (upd H p o)) := fun a u e => by
  have q := hide_some e
  have ne : a ≠ p := fun z => q.1 (by rw [z]; exact hp)
  rw [hide_of q.1, upd_ne ne]; exact q.2
end
/-! ### data, its tuples such that they can be asked -/
mutual
inductive Dd (H : Hp) : V → PyData → Prop
  | non : Dd H .non .none
  | bl (b : Bool) : Dd H (.bl b) (.bool b)
  | int (i : Int) : Dd H (.int i) (.int i)
  | str (x : Str) : Dd H (.str x) (.str x)
  | lst {a : Addr} {xs : List V} {ds : List PyData} : H a = some (.lst xs) → DdAll H xs ds → Dd H (.ref a) (.list ds)
  | tup {a : Addr} {xs : List V} {ds : List PyData} : Ti H a xs → DdAll H xs ds → Dd H (.ref a) (.tuple ds)
  | dic {a : Addr} {kvs : List (Key × V)} {ds : List (PyData × PyData)} : H a = some (.dK kvs) → DdKv H kvs ds → Dd H (.ref a) (.dict ds)
inductive DdAll (H : Hp) : List V → List PyData → Prop
  | nil : DdAll H [] []
  | cons {v : V} {vs : List V} {d : PyData} {ds : List PyData} : Dd H v d → DdAll H vs ds → DdAll H (v :: vs) (d :: ds)
inductive DdKv (H : Hp) : List (Key × V) → List (PyData × PyData) → Prop
  | nil : DdKv H [] []
  | cons {k : Key} {v : V} {vs : List (Key × V)} {d : PyData} {ds : List (PyData × PyData)} : Dd H v d → DdKv H vs ds → DdKv H ((k, v) :: vs) ((keyD k, d) :: ds)
end
section
variable {H H' : Hp}
mutual
theorem Dd.mono (e : Ex H H') : ∀ {v : V} {d : PyData}, Dd H v d → Dd H' v d
  | _, _, .non => .non
  | _, _, .bl b => .bl b
  | _, _, .int i => .int i
  | _, _, .str x => .str x
  | _, _, .lst h t => .lst (e _ _ h) (DdAll.mono e t)
  | _, _, .tup h t => .tup (h.ex e) (DdAll.mono e t)
  | _, _, .dic h t => .dic (e _ _ h) (DdKv.mono e t)
theorem DdAll.mono (e : Ex H H') : ∀ {v : List V} {d : List PyData}, DdAll H v d → DdAll H' v d
  | _, _, .nil => .nil
  | _, _, .cons a b => .cons (Dd.mono e a) (DdAll.mono e b)
theorem DdKv.mono (e : Ex H H') : ∀ {v : List (Key × V)} {d : List (PyData × PyData)}, DdKv H v d → DdKv H' v d
  | _, _, .nil => .nil
  | _, _, .cons a b => .cons (Dd.mono e a) (DdKv.mono e b)
end
mutual
theorem Dd.dv : ∀ {v : V} {d : PyData}, Dd H v d → Dv H v d
  | _, _, .non => .non
  | _, _, .bl b => .bl b
  | _, _, .int i => .int i
  | _, _, .str x => .str x
  | _, _, .lst h t => .lst h (DdAll.dv t)
  | _, _, .tup h t => h.dv (DdAll.dv t)
  | _, _, .dic h t => .dic h (DdKv.dv t)
theorem DdAll.dv : ∀ {v : List V} {d : List PyData}, DdAll H v d → DvAll H v d
  | _, _, .nil => .nil
  | _, _, .cons a b => .cons (Dd.dv a) (DdAll.dv b)
theorem DdKv.dv : ∀ {v : List (Key × V)} {d : List (PyData × PyData)}, DdKv H v d → DvKv H v d
  | _, _, .nil => .nil
  | _, _, .cons a b => .cons (Dd.dv a) (DdKv.dv b)
end
mutual
theorem Dd.dp {K : PySem.W.Frag} : ∀ {v : V} {d : PyData}, Dd H v d → d.canLay0 = true → Dp K H v d
  | _, _, .non, _ => .non
  | _, _, .bl b, _ => .bl b
  | _, _, .int i, _ => .int i
  | _, _, .str x, _ => .str x
  | _, _, .lst h t, z => .lst (SqL.of h) (DdAll.dp t (by simpa [PyData.canLay0] using z))
  | _, _, .tup h t, z => .tup h.sq (DdAll.dp t (by simpa [PyData.canLay0] using z))
  | _, _, .dic h t, z => by simp [PyData.canLay0] at z
theorem DdAll.dp {K : PySem.W.Frag} : ∀ {v : List V} {d : List PyData}, DdAll H v d → PyData.canLayAll0 d = true → DpAll K H v d
  | _, _, .nil, _ => .nil
  | _, _, .cons a b, z => by
    simp only [PyData.canLayAll0, Bool.and_eq_true] at z
    exact .cons (Dd.dp a z.1) (DdAll.dp b z.2)
end
theorem DdAll.len : ∀ {vs : List V} {ds : List PyData}, DdAll H vs ds → vs.length = ds.length
  | _, _, .nil => rfl
  | _, _, .cons _ t => congrArg (· + 1) t.len
theorem DdAll.app : ∀ {vs ws : List V} {ds es : List PyData}, DdAll H vs ds → DdAll H ws es → DdAll H (vs ++ ws) (ds ++ es)
  | _, _, _, _, .nil, s => s
  | _, _, _, _, .cons a t, s => .cons a (t.app s)
theorem DdAll.get : ∀ {vs : List V} {ds : List PyData} {i : Nat} {v : V}, DdAll H vs ds → vs[i]? = some v → ∃ d, ds[i]? = some d ∧ Dd H v d
  | _, _, _, _, .nil, e => by simp at e
  | _, _, 0, _, .cons a _, e => by simp at e; subst e; exact ⟨_, rfl, a⟩
  | _, _, i + 1, _, .cons _ t, e => by
    obtain ⟨d, h1, h2⟩ := t.get (i := i) (by simpa using e)
    exact ⟨d, by simpa using h1, h2⟩
theorem DdAll.getD : ∀ {vs : List V} {ds : List PyData} {i : Nat} {d : PyData}, DdAll H vs ds → ds[i]? = some d → ∃ v, vs[i]? = some v ∧ Dd H v d
  | _, _, _, _, .nil, e => by simp at e
  | _, _, 0, _, .cons a _, e => by simp at e; subst e; exact ⟨_, rfl, a⟩
  | _, _, i + 1, _, .cons _ t, e => by
    obtain ⟨v, h1, h2⟩ := t.getD (i := i) (by simpa using e)
    exact ⟨v, by simpa using h1, h2⟩
theorem DdAll.take : ∀ {vs : List V} {ds : List PyData} (n : Nat), DdAll H vs ds → DdAll H (vs.take n) (ds.take n)
  | _, _, 0, _ => .nil
  | _, _, _ + 1, .nil => .nil
  | _, _, n + 1, .cons a t => .cons a (t.take n)
theorem DdAll.drop : ∀ {vs : List V} {ds : List PyData} (n : Nat), DdAll H vs ds → DdAll H (vs.drop n) (ds.drop n)
  | _, _, 0, t => t
  | _, _, _ + 1, .nil => .nil
  | _, _, n + 1, .cons _ t => t.drop n
theorem dd_ints (H : Hp) : ∀ ns : List Int, DdAll H (ns.map V.int) (ns.map PyData.int)
  | [] => .nil
  | n :: r => .cons (.int n) (dd_ints H r)
end
/-! ### values: data, what is known otherwise, lists of one's own -/
structure Mo where
  R : Hp → V → Prop
  mono : ∀ {H H' : Hp} {v : V}, Ex H H' → R H v → R H' v
/-- what is one's own: a slot's list, a list within a slot's list -/
inductive Ix where
  | s (i : Nat)
  | u (i j : Nat)
deriving DecidableEq
inductive SV where
  | d (x : PyData)
  | o (m : Mo)
  | ty (n : String)
  | ref (a : Addr)
  | own (xs : List PyData)
  | own2 (a : Addr) (xss : List (List PyData))
  | ln (i j : Nat) (xs : List PyData)
abbrev Ro := List (Option SV)
def Re (B : Hp) (v : V) : SV → Prop
  | .d x => Dd B v x
  | .o m => m.R B v
  | .ty n => v = .ty n
  | .ref a => v = .ref a
  | .own _ => False
  | .own2 _ _ => False
  | .ln _ _ _ => False
inductive ReAll (B : Hp) : List V → List SV → Prop
  | nil : ReAll B [] []
  | cons {v : V} {vs : List V} {s : SV} {ss : List SV} : Re B v s → ReAll B vs ss → ReAll B (v :: vs) (s :: ss)
theorem Re.mono {B B' : Hp} {v : V} {s : SV} (e : Ex B B') (h : Re B v s) : Re B' v s := by
  cases s with
  | d x => exact Dd.mono e h
  | o m => exact m.mono e h
  | ty n => exact h
  | ref a => exact h
  | own xs => exact h.elim
  | own2 a xss => exact h.elim
  | ln i j xs => exact h.elim
theorem ReAll.mono {B B' : Hp} (e : Ex B B') : ∀ {vs : List V} {ss : List SV}, ReAll B vs ss → ReAll B' vs ss
  | _, _, .nil => .nil
  | _, _, .cons a b => .cons (a.mono e) (b.mono e)
theorem ReAll.len {B : Hp} : ∀ {vs : List V} {ss : List SV}, ReAll B vs ss → vs.length = ss.length
  | _, _, .nil => rfl
  | _, _, .cons _ t => congrArg (· + 1) t.len
theorem ReAll.get {B : Hp} : ∀ {vs : List V} {ss : List SV} {i : Nat} {s : SV}, ReAll B vs ss → ss[i]? = some s → ∃ v, vs[i]? = some v ∧ Re B v s
  | _, _, _, _, .nil, e => by simp at e
  | _, _, 0, _, .cons a _, e => by simp at e; subst e; exact ⟨_, rfl, a⟩
  | _, _, i + 1, _, .cons _ t, e => by
    obtain ⟨v, h1, h2⟩ := t.get (i := i) (by simpa using e)
    exact ⟨v, by simpa using h1, h2⟩
def Oo (hid : Addr → Prop) (own : Ix → Option Addr) (a : Addr) : Prop := hid a ∨ ∃ i, own i = some a
noncomputable abbrev Bh (hid : Addr → Prop) (own : Ix → Option Addr) (H : Hp) : Hp := hide (Oo hid own) H
/-- a list of one's own, in hand for a moment -/
def OwnX (hid : Addr → Prop) (own : Ix → Option Addr) (H : Hp) (x : Ix) (v : V) (ds : List PyData) : Prop := ∃ a vs, own x = some a ∧ v = .ref a ∧ H a = some (.lst vs) ∧ DdAll (Bh hid own H) vs ds
def OwnAt (hid : Addr → Prop) (own : Ix → Option Addr) (H : Hp) (i : Nat) (v : V) (ds : List PyData) : Prop := OwnX hid own H (.s i) v ds
/-- a list of lists of one's own -/
def Own2At (hid : Addr → Prop) (own : Ix → Option Addr) (H : Hp) (i : Nat) (v : V) (a : Addr) (dss : List (List PyData)) : Prop := ∃ vs, own (.s i) = some a ∧ v = .ref a ∧ H a = some (.lst vs) ∧ vs.length = dss.length ∧ ∀ j ds, dss[j]? = some ds → ∃ u, vs[j]? = some u ∧ OwnX hid own H (.u i j) u ds
def Sat (hid : Addr → Prop) (own : Ix → Option Addr) (H : Hp) (i : Nat) (v : V) : SV → Prop
  | .own ds => OwnAt hid own H i v ds
  | .own2 a dss => Own2At hid own H i v a dss
  | .ln k j ds => OwnX hid own H (.u k j) v ds
  | s => Re (Bh hid own H) v s
def Rb (hid : Addr → Prop) (own : Ix → Option Addr) (H : Hp) (v : V) (s : SV) : Prop := Re (Bh hid own H) v s ∨ ∃ ds x, s = .d (.list ds) ∧ OwnX hid own H x v ds
structure Rep (hs : Hp) (hid : Addr → Prop) (own : Ix → Option Addr) (H : Hp) (σ : L2.St) (ρ : Ro) : Prop where
  ex : Ex hs H
  occ : ∀ a, Oo hid own a → H a ≠ none
  new : ∀ i a, own i = some a → hs a = none ∧ ¬ hid a
  inj : ∀ i j a, own i = some a → own j = some a → i = j
  len : σ.length = ρ.length
  get : ∀ i s, ρ[i]? = some (some s) → ∃ v, σ[i]? = some (some v) ∧ Sat hid own H i v s
section
variable {hs hs' : Hp} {hid : Addr → Prop} {own : Ix → Option Addr} {H H' : Hp} {σ : L2.St} {ρ : Ro} {v : V} {s : SV} {i : Nat} {ds : List PyData}
/-- what is in hand stays, where its cells and its data do -/
theorem OwnX.lift {hid' : Addr → Prop} {own' : Ix → Option Addr} {x : Ix} (h : OwnX hid own H x v ds) (hc : ∀ a, own x = some a → own' x = some a ∧ H' a = H a) (hB : Ex (Bh hid own H) (Bh hid' own' H')) : OwnX hid' own' H' x v ds := by
  obtain ⟨a, vs, h1, h2, h3, h4⟩ := h
  exact ⟨a, vs, (hc a h1).1, h2, (hc a h1).2.trans h3, h4.mono hB⟩
theorem Own2At.lift {hid' : Addr → Prop} {own' : Ix → Option Addr} {b : Addr} {dss : List (List PyData)} (h : Own2At hid own H i v b dss) (hc : ∀ x a, (x = .s i ∨ ∃ j, x = .u i j) → own x = some a → own' x = some a ∧ H' a = H a) (hB : Ex (Bh hid own H) (Bh hid' own' H')) : Own2At hid' own' H' i v b dss := by
  obtain ⟨vs, h1, h2, h3, h4, h5⟩ := h
  refine ⟨vs, (hc _ _ (.inl rfl) h1).1, h2, (hc _ _ (.inl rfl) h1).2.trans h3, h4, fun j ds hj => ?_⟩
  obtain ⟨u, h6, h7⟩ := h5 j ds hj
  exact ⟨u, h6, h7.lift (fun a ha => hc _ _ (.inr ⟨j, rfl⟩) ha) hB⟩
theorem Sat.lift {hid' : Addr → Prop} {own' : Ix → Option Addr} (h : Sat hid own H i v s) (hc : ∀ x a, (x = .s i ∨ ∃ k l, x = .u k l) → own x = some a → own' x = some a ∧ H' a = H a) (hB : Ex (Bh hid own H) (Bh hid' own' H')) : Sat hid' own' H' i v s := by
  cases s with
  | own ds => exact OwnX.lift h (fun a ha => hc _ _ (.inl rfl) ha) hB
  | own2 a dss => exact Own2At.lift h (fun x a hx ha => hc x a (hx.imp id fun ⟨j, e⟩ => ⟨_, _, e⟩) ha) hB
  | ln k j ds => exact OwnX.lift h (fun a ha => hc _ _ (.inr ⟨_, _, rfl⟩) ha) hB
  | d x => exact Re.mono (s := .d x) hB h
  | o m => exact Re.mono (s := .o m) hB h
  | ty n => exact h
  | ref a => exact h
theorem OwnX.mono {x : Ix} (e : Ex H H') (h : OwnX hid own H x v ds) : OwnX hid own H' x v ds := by
  obtain ⟨a, vs, h1, h2, h3, h4⟩ := h
  exact ⟨a, vs, h1, h2, e _ _ h3, h4.mono (hide_mono e)⟩
theorem OwnAt.mono (e : Ex H H') (h : OwnAt hid own H i v ds) : OwnAt hid own H' i v ds := OwnX.mono e h
theorem Own2At.mono {b : Addr} {dss : List (List PyData)} (e : Ex H H') (h : Own2At hid own H i v b dss) : Own2At hid own H' i v b dss := by
  obtain ⟨vs, h1, h2, h3, h4, h5⟩ := h
  refine ⟨vs, h1, h2, e _ _ h3, h4, fun j ds hj => ?_⟩
  obtain ⟨u, h6, h7⟩ := h5 j ds hj
  exact ⟨u, h6, h7.mono e⟩
theorem Sat.mono (e : Ex H H') (h : Sat hid own H i v s) : Sat hid own H' i v s := by
  cases s with
  | own ds => exact OwnAt.mono e h
  | own2 a dss => exact Own2At.mono e h
  | ln k j ds => exact OwnX.mono e h
  | d x => exact Re.mono (s := .d x) (hide_mono e) h
  | o m => exact Re.mono (s := .o m) (hide_mono e) h
  | ty n => exact h
  | ref a => exact h
theorem Rb.mono (e : Ex H H') (h : Rb hid own H v s) : Rb hid own H' v s := by
  rcases h with h | ⟨ds, i, a, b⟩
  · exact .inl (h.mono (hide_mono e))
  · exact .inr ⟨ds, i, a, b.mono e⟩
theorem ne_none_mono {a : Addr} (e : Ex H H') (h : H a ≠ none) : H' a ≠ none := fun z => h (Evl.fresh_back e z)
theorem Rep.keeps (r : Rep hs hid own H σ ρ) (e : Ex H H') (x : Ix) (a : Addr) (h : own x = some a) : own x = some a ∧ H' a = H a := by
  refine ⟨h, ?_⟩
  cases q : H a with
  | none => exact absurd q (r.occ a (.inr ⟨x, h⟩))
  | some o => exact e _ _ q
theorem Rep.mono (r : Rep hs hid own H σ ρ) (e : Ex H H') : Rep hs hid own H' σ ρ :=
  ⟨r.ex.trans e, fun a h => ne_none_mono e (r.occ a h), r.new, r.inj, r.len, fun i s h => by
    obtain ⟨v, h1, h2⟩ := r.get i s h
    exact ⟨v, h1, h2.mono e⟩⟩
theorem Rep.start (r : Rep hs hid own H σ ρ) (e : Ex hs' hs) : Rep hs' hid own H σ ρ :=
  ⟨e.trans r.ex, r.occ, fun i a h => ⟨Evl.fresh_back e (r.new i a h).1, (r.new i a h).2⟩, r.inj, r.len, r.get⟩
theorem Rep.notO {p : Addr} (r : Rep hs hid own H σ ρ) (h : H p = none) : ¬ Oo hid own p := fun z => r.occ p z h
/-- what is in hand is data of the whole heap -/
theorem Rb.dd {x : PyData} (h : Rb hid own H v (.d x)) : Dd H v x := by
  rcases h with h | ⟨ds, i, e, a, vs, h1, rfl, h3, h4⟩
  · exact Dd.mono hide_ex h
  · cases e
    exact .lst h3 (h4.mono hide_ex)
theorem Rb.list {xs : List PyData} (h : Rb hid own H v (.d (.list xs))) : ∃ a vs, v = .ref a ∧ H a = some (.lst vs) ∧ DdAll (Bh hid own H) vs xs := by
  rcases h with h | ⟨ds, i, e, a, vs, h1, rfl, h3, h4⟩
  · cases h with
    | lst h t => exact ⟨_, _, rfl, hide_ex _ _ h, t⟩
  · cases e
    exact ⟨a, vs, rfl, h3, h4⟩
theorem Rb.tuple {xs : List PyData} (h : Rb hid own H v (.d (.tuple xs))) : ∃ a vs, v = .ref a ∧ Ti (Bh hid own H) a vs ∧ DdAll (Bh hid own H) vs xs := by
  rcases h with h | ⟨ds, i, e, _⟩
  · cases h with
    | tup h t => exact ⟨_, _, rfl, h, t⟩
  · cases e
theorem Rb.int {j : Int} (h : Rb hid own H v (.d (.int j))) : v = .int j := by
  rcases h with h | ⟨ds, i, e, _⟩
  · cases h; rfl
  · cases e
theorem Rb.str {j : Str} (h : Rb hid own H v (.d (.str j))) : v = .str j := by
  rcases h with h | ⟨ds, i, e, _⟩
  · cases h; rfl
  · cases e
theorem Rb.bl {j : Bool} (h : Rb hid own H v (.d (.bool j))) : v = .bl j := by
  rcases h with h | ⟨ds, i, e, _⟩
  · cases h; rfl
  · cases e
theorem Rb.non (h : Rb hid own H v (.d .none)) : v = .non := by
  rcases h with h | ⟨ds, i, e, _⟩
  · cases h; rfl
  · cases e
end
/-! ### readings by data -/
abbrev WE := Ro → (SV → Prop) → Prop
abbrev WT := Ro → (Bool → Prop) → Prop
abbrev WA := Ro → (List SV → Prop) → Prop
class LE (t : TE) (w : outParam WE) : Prop where
  go : ∀ hs hid own H σ ρ (P : SV → Prop) (Q : VK), Rep hs hid own H σ ρ → w ρ P → (∀ s v H', P s → Ex H H' → Re (Bh hid own H') v s → Q v H') → t σ H Q
class LB (t : TE) (w : outParam WE) : Prop where
  go : ∀ hs hid own H σ ρ (P : SV → Prop) (Q : VK), Rep hs hid own H σ ρ → w ρ P → (∀ s v H', P s → Ex H H' → Rb hid own H' v s → Q v H') → t σ H Q
class LT (t : TT) (w : outParam WT) : Prop where
  go : ∀ hs hid own H σ ρ (P : Bool → Prop) (Q : Bool → Hp → Prop), Rep hs hid own H σ ρ → w ρ P → (∀ b H', P b → Ex H H' → Q b H') → t σ H Q
class LA (t : TA) (w : outParam WA) : Prop where
  go : ∀ hs hid own H σ ρ (P : List SV → Prop) (Q : List V → Hp → Prop), Rep hs hid own H σ ρ → w ρ P → (∀ ss vs H', P ss → Ex H H' → ReAll (Bh hid own H') vs ss → Q vs H') → t σ H Q
inductive RbAll (hid : Addr → Prop) (own : Ix → Option Addr) (H : Hp) : List V → List SV → Prop
  | nil : RbAll hid own H [] []
  | cons {v : V} {vs : List V} {s : SV} {ss : List SV} : Rb hid own H v s → RbAll hid own H vs ss → RbAll hid own H (v :: vs) (s :: ss)
theorem RbAll.mono {hid : Addr → Prop} {own : Ix → Option Addr} {H H' : Hp} (e : Ex H H') : ∀ {vs : List V} {ss : List SV}, RbAll hid own H vs ss → RbAll hid own H' vs ss
  | _, _, .nil => .nil
  | _, _, .cons a b => .cons (a.mono e) (b.mono e)
class LAB (t : TA) (w : outParam WA) : Prop where
  go : ∀ hs hid own H σ ρ (P : List SV → Prop) (Q : List V → Hp → Prop), Rep hs hid own H σ ρ → w ρ P → (∀ ss vs H', P ss → Ex H H' → RbAll hid own H' vs ss → Q vs H') → t σ H Q
instance (priority := 100) le_lb {t : TE} {w : WE} [h : LE t w] : LB t w := ⟨fun hs hid own H σ ρ P Q r hw k => h.go hs hid own H σ ρ P Q r hw fun s v H' p e q => k s v H' p e (.inl q)⟩
/-! names, constants -/
def gv (o : Option (Option SV)) (P : SV → Prop) : Prop := match o with
  | some (some (.d x)) => P (.d x)
  | some (some (.o m)) => P (.o m)
  | some (some (.ty n)) => P (.ty n)
  | some (some (.ref a)) => P (.ref a)
  | _ => False
def gb' (o : Option (Option SV)) (P : SV → Prop) : Prop := match o with
  | some (some (.d x)) => P (.d x)
  | some (some (.o m)) => P (.o m)
  | some (some (.ty n)) => P (.ty n)
  | some (some (.ref a)) => P (.ref a)
  | some (some (.own ds)) => P (.d (.list ds))
  | some (some (.ln i j ds)) => P (.d (.list ds))
  | _ => False
def wVar (i : Nat) : WE := fun ρ P => gv ρ[i]? P
def wVarB (i : Nat) : WE := fun ρ P => gb' ρ[i]? P
instance le_var {i : Nat} : LE (tVar i) (wVar i) := ⟨fun hs hid own H σ ρ P Q r hw k => by
  unfold wVar gv at hw
  split at hw
  all_goals first
    | exact hw.elim
    | (rename_i x e
       obtain ⟨v, h1, h2⟩ := r.get i _ e
       exact ⟨v, h1, k _ v H hw (Evl.Ex.refl H) h2⟩)⟩
instance lb_var {i : Nat} : LB (tVar i) (wVarB i) := ⟨fun hs hid own H σ ρ P Q r hw k => by
  unfold wVarB gb' at hw
  split at hw
  all_goals first
    | exact hw.elim
    | (rename_i x e
       obtain ⟨v, h1, h2⟩ := r.get i _ e
       exact ⟨v, h1, k _ v H hw (Evl.Ex.refl H) (.inl h2)⟩)
    | (rename_i x e
       obtain ⟨v, h1, h2⟩ := r.get i _ e
       exact ⟨v, h1, k _ v H hw (Evl.Ex.refl H) (.inr ⟨_, .s i, rfl, h2⟩)⟩)
    | (rename_i x y z e
       obtain ⟨v, h1, h2⟩ := r.get i _ e
       exact ⟨v, h1, k _ v H hw (Evl.Ex.refl H) (.inr ⟨_, .u x y, rfl, h2⟩)⟩)⟩
def wC (d : PyData) : WE := fun _ P => P (.d d)
instance le_int {i : Int} : LE (tC (.int i)) (wC (.int i)) := ⟨fun hs hid own H σ ρ P Q r hw k => k _ _ H hw (Evl.Ex.refl H) (.int i)⟩
instance le_bl {i : Bool} : LE (tC (.bl i)) (wC (.bool i)) := ⟨fun hs hid own H σ ρ P Q r hw k => k _ _ H hw (Evl.Ex.refl H) (.bl i)⟩
instance le_str {i : Str} : LE (tC (.str i)) (wC (.str i)) := ⟨fun hs hid own H σ ρ P Q r hw k => k _ _ H hw (Evl.Ex.refl H) (.str i)⟩
def wTy (n : String) : WE := fun _ P => P (.ty n)
instance le_ty {n : String} : LE (tC (.ty n)) (wTy n) := ⟨fun hs hid own H σ ρ P Q r hw k => k _ _ H hw (Evl.Ex.refl H) rfl⟩
def wRef (a : Addr) : WE := fun _ P => P (.ref a)
instance le_ref {a : Addr} : LE (tC (.ref a)) (wRef a) := ⟨fun hs hid own H σ ρ P Q r hw k => k _ _ H hw (Evl.Ex.refl H) rfl⟩
instance le_non : LE (tC .non) (wC .none) := ⟨fun hs hid own H σ ρ P Q r hw k => k _ _ H hw (Evl.Ex.refl H) .non⟩
/-! two operands -/
abbrev W2 := SV → SV → (SV → Prop) → Prop
class DO (r : R2) (f : outParam W2) : Prop where
  go : ∀ hid own H x y sx sy (P : SV → Prop) (Q : VK), (∀ p, H p = none → ¬ Oo hid own p) → Rb hid own H x sx → Rb hid own H y sy → f sx sy P → (∀ s v H', P s → Ex H H' → Re (Bh hid own H') v s → Q v H') → r x y H Q
def wOp (f : W2) (wa wb : WE) : WE := fun ρ P => wa ρ fun x => wb ρ fun y => f x y P
instance le_op {r : R2} {f : W2} {ta tb : TE} {wa wb : WE} [d : DO r f] [a : LB ta wa] [b : LB tb wb] : LE (tOp r ta tb) (wOp f wa wb) := ⟨fun hs hid own H σ ρ P Q r hw k => by
  refine a.go hs hid own H σ ρ _ _ r hw fun sx x H1 hx e1 rx => ?_
  refine b.go hs hid own H1 σ ρ _ _ (r.mono e1) hx fun sy y H2 hy e2 ry => ?_
  exact d.go hid own H2 x y sx sy P Q (fun p hp => ((r.mono e1).mono e2).notO hp) (rx.mono e2) ry hy fun s v H' p e q => k s v H' p ((e1.trans e2).trans e) q⟩
abbrev W1 := SV → (SV → Prop) → Prop
class DU (r : V → Hp → VK → Prop) (f : outParam W1) : Prop where
  go : ∀ hid own H x sx (P : SV → Prop) (Q : VK), (∀ p, H p = none → ¬ Oo hid own p) → Rb hid own H x sx → f sx P → (∀ s v H', P s → Ex H H' → Re (Bh hid own H') v s → Q v H') → r x H Q
def wUn (f : W1) (wa : WE) : WE := fun ρ P => wa ρ fun x => f x P
instance le_un {r : V → Hp → VK → Prop} {f : W1} {ta : TE} {wa : WE} [d : DU r f] [a : LB ta wa] : LE (tUn r ta) (wUn f wa) := ⟨fun hs hid own H σ ρ P Q r hw k => by
  refine a.go hs hid own H σ ρ _ _ r hw fun sx x H1 hx e1 rx => ?_
  exact d.go hid own H1 x sx P Q (fun p hp => (r.mono e1).notO hp) rx hx fun s v H' p e q => k s v H' p (e1.trans e) q⟩
/-- ints -/
def fI (C : Int → Int → Prop) (g : Int → Int → PyData) : W2 := fun x y P => match x, y with
  | .d (.int i), .d (.int j) => C i j ∧ P (.d (g i j))
  | _, _ => False
def fB (C : Int → Int → Prop) (g : Int → Int → Bool) : W2 := fI C fun i j => .bool (g i j)
instance do_int {C : Int → Int → Prop} {g : Int → Int → Int} : DO (rI C fun i j => .int (g i j)) (fI C fun i j => .int (g i j)) := ⟨fun hid own H x y sx sy P Q ho rx ry hf k => by
  unfold fI at hf
  split at hf
  · rw [rx.int, ry.int]
    exact ⟨_, _, rfl, rfl, hf.1, k _ _ H hf.2 (Evl.Ex.refl H) (.int _)⟩
  · exact hf.elim⟩
instance do_cmp {C : Int → Int → Prop} {g : Int → Int → Bool} : DO (rI C fun i j => .bl (g i j)) (fI C fun i j => .bool (g i j)) := ⟨fun hid own H x y sx sy P Q ho rx ry hf k => by
  unfold fI at hf
  split at hf
  · rw [rx.int, ry.int]
    exact ⟨_, _, rfl, rfl, hf.1, k _ _ H hf.2 (Evl.Ex.refl H) (.bl _)⟩
  · exact hf.elim⟩
def fI0 (g : Int → Int → PyData) : W2 := fun x y P => match x, y with
  | .d (.int i), .d (.int j) => P (.d (g i j))
  | _, _ => False
instance do_int0 {g : Int → Int → Int} : DO (rI0 fun i j => .int (g i j)) (fI0 fun i j => .int (g i j)) := ⟨fun hid own H x y sx sy P Q ho rx ry hf k => by
  unfold fI0 at hf
  split at hf
  · rw [rx.int, ry.int]
    exact ⟨_, _, rfl, rfl, k _ _ H hf (Evl.Ex.refl H) (.int _)⟩
  · exact hf.elim⟩
instance do_cmp0 {g : Int → Int → Bool} : DO (rI0 fun i j => .bl (g i j)) (fI0 fun i j => .bool (g i j)) := ⟨fun hid own H x y sx sy P Q ho rx ry hf k => by
  unfold fI0 at hf
  split at hf
  · rw [rx.int, ry.int]
    exact ⟨_, _, rfl, rfl, k _ _ H hf (Evl.Ex.refl H) (.bl _)⟩
  · exact hf.elim⟩
end Lr

namespace Lr
open PySem L2 PySem.Spec PyProof.Rows
/-- what can be compared -/
def shp (d : PyData) : Bool := d.canLay0 && decide (d.depth ≤ 60)
theorem shp_lay {d : PyData} (h : shp d = true) : d.canLay0 = true := (Bool.and_eq_true_iff.mp h).1
theorem shp_dep {d : PyData} (h : shp d = true) : d.depth ≤ 60 := of_decide_eq_true (Bool.and_eq_true_iff.mp h).2
theorem shp_sh {d : PyData} (h : shp d = true) : SeqAt.shaped d = true := by
  unfold SeqAt.shaped
  rw [shp_lay h, Bool.true_and]
  exact decide_eq_true (Nat.le_trans (shp_dep h) (by decide))
/-! ### new tuples, kept as they are made -/
def newT (xs : List V) (H : Hp) (Q : VK) : Prop := ∀ (p : Addr) (o : Obj), H p = none → o.dict = none → Q (.ref p) (upd H p (.frz o (.tup xs)))
theorem laidT {X : Cx} {pins : List (Addr × Obj)} {σ : L2.St} {H : Hp} {s : Shared} {xs : List V} {its : List Value} {Q : VK} (I : Inv X pins σ H s) (r : Vals xs its) (hz : xs.length ≤ sizeLine) (q : newT xs H Q) :
    EP X pins σ Q (.ref s.heap.objs.size) { s with heap := s.heap.push { cls := .type "tuple", data := .seq its.toArray } } := by
  have hn := I.hok.fresh (Nat.le_refl _)
  refine ⟨.ref s.heap.objs.size, _, I.laid (t' := s.toks) (o := .frz { cls := .type "tuple", data := .seq its.toArray } (.tup xs)) (fun b o e => Heap.get?_push_of_some _ e) (Nat.le_refl _) ?_, rfl, q _ _ hn rfl⟩
  exact ⟨Heap.get?_push_size _ rfl, hz, its, r, IsTup.new _ _⟩
def tTupF (t : TA) : TE := fun σ H Q => t σ H fun xs H1 => xs.length ≤ sizeLine ∧ newT xs H1 Q
section
variable {X : Cx} {K : PySem.W.Frag}
theorem pe_tupF {es : List Expr} {t : TA} {pos : Pos} {x1} (h : PA X es t) : PE X (.Tuple es x1 pos) (tTupF t) := by
  constructor
  intro pn s0 st G Q J want
  refine wpAny_Tuple_spliced (thn (h.run pos pn s0 st G _ J want) ?_)
  rintro us s1 ⟨xs, G1, J1, rel, few, k⟩
  exact ⟨by rw [← rel.length]; exact few, laidT J1 rel few k⟩
/-- tuple + tuple -/
def rCatF (K : PySem.W.Frag) : R2 := fun x y H Q => ∃ a b xs ys, x = .ref a ∧ y = .ref b ∧ SqT K H a xs ∧ SqT K H b ys ∧ xs.length + ys.length ≤ sizeLine ∧ (xs = [] → Q (.ref b) H) ∧ (xs ≠ [] → ys = [] → Q (.ref a) H) ∧ (xs ≠ [] → ys ≠ [] → newT (xs ++ ys) H Q)
theorem op_catF (hK : X.K = K) : OpR X (binaryOp .Add) (rCatF K) := by
  subst hK
  rintro pn s0 st G _ _ v u Q J rx ry ⟨a, b, xs, ys, rfl, rfl, ta, tb, room, k0, k1, k2⟩
  cases rx
  cases ry
  obtain ⟨us, ra, pa, _⟩ := J.tuple ta
  obtain ⟨ws, rb, pb, _⟩ := J.tuple tb
  by_cases none_ : xs = []
  · subst none_
    cases ra
    exact cat_tup0 pa pb ⟨.ref b, G, J, rfl, k0 rfl⟩
  · have nu : us ≠ [] := fun z => none_ (ra.nil_iff.mp z)
    refine HT.cat_tup pa pb nu (fun z => ⟨.ref a, G, J, rfl, k1 none_ (rb.nil_iff.mp z)⟩) (fun z => ?_) (by rw [← ra.length, ← rb.length]; exact room)
    exact laidT J (ra.append rb) (by rw [List.length_append]; exact room) (k2 none_ fun e => z (rb.nil_iff.mpr e))
def rAdd (K : PySem.W.Frag) : R2 := fun x y H Q => rI0 (fun i j => .int (i + j)) x y H Q ∨ (∃ i j, x = .str i ∧ y = .str j ∧ i.length + j.length ≤ sizeLine ∧ Q (.str (i ++ j)) H) ∨ rCat x y H Q ∨ rCatF K x y H Q
theorem ko_add (hK : X.K = K) : OpR X (binaryOp .Add) (rAdd K) := by
  intro pins s σ H x y v u Q I rx ry h
  rcases h with h | h | h | h
  · exact op_add pins s σ H x y v u Q I rx ry h
  · exact op_add_str pins s σ H x y v u Q I rx ry h
  · exact op_cat pins s σ H x y v u Q I rx ry h
  · exact op_catF hK pins s σ H x y v u Q I rx ry h
def rSlF (K : PySem.W.Frag) : V → Option Int → Option Int → Hp → VK → Prop := fun x lo hi H Q => ∃ a xs, x = .ref a ∧ SqT K H a xs ∧
  (HT.sIx xs.length 0 lo = 0 ∧ HT.sIx xs.length xs.length hi = xs.length → Q (.ref a) H) ∧ (¬ (HT.sIx xs.length 0 lo = 0 ∧ HT.sIx xs.length xs.length hi = xs.length) → newT (cutV xs lo hi) H Q)
theorem sl_F (hK : X.K = K) : SlR X (rSlF K) := by
  subst hK
  rintro pn s0 st G _ v vl vu lo hi sl Q J rx hsl p1 p2 ⟨a, xs, rfl, tx, k1, k2⟩
  cases rx
  obtain ⟨us, rel, pt, room⟩ := J.tuple tx
  have same : us.toArray.size = xs.length := by simp [rel.length]
  have cutOk := (rel.drop (HT.sIx xs.length 0 lo)).take (HT.sIx xs.length xs.length hi - HT.sIx xs.length 0 lo)
  refine ⟨_, _, slot_tuple_getitem.lookup, pt.typeIs, ?_⟩
  by_cases all_ : HT.sIx us.toArray.size 0 lo = 0 ∧ HT.sIx us.toArray.size us.toArray.size hi = us.toArray.size
  · exact getItem_tuple_whole pt hsl p1 p2 all_ ⟨.ref a, G, J, rfl, k1 (by rw [← same]; exact all_)⟩
  · refine HT.getItem_tuple_cut pt hsl p1 p2 all_ ?_ (by rw [same]; exact room)
    rw [same]
    exact laidT J cutOk (Nat.le_trans (cutV_length xs lo hi) room) (k2 (by rw [← same]; exact all_))
def rSlX (K : PySem.W.Frag) : V → Option Int → Option Int → Hp → VK → Prop := fun x lo hi H Q => rSlF K x lo hi H Q ∨ rSlL K x lo hi H Q ∨ rSlS x lo hi H Q
theorem sl_X (hK : X.K = K) : SlR X (rSlX K) := by
  intro pins s σ H x v vl vu lo hi sl Q I rx hs pl pu h
  rcases h with h | h | h
  · exact sl_F hK pins s σ H x v vl vu lo hi sl Q I rx hs pl pu h
  · exact ks_list hK pins s σ H x v vl vu lo hi sl Q I rx hs pl pu h
  · exact sl_str pins s σ H x v vl vu lo hi sl Q I rx hs pl pu h
/-- tuple(range) -/
def tTupRgF (te : L2.St → Hp → (Int → Int → Hp → Prop) → Prop) : TE := fun σ H Q => te σ H fun a b H1 => RgOk a b ∧ ∀ H2, Ex H1 H2 → newT (rgV a b) H2 Q
theorem pe_tupRgF {e : Expr} {te : L2.St → Hp → (Int → Int → Hp → Prop) → Prop} {p pos : Pos} (hc : X.calm = true) (hg : Gl X "tuple") (hm : X.mg "tuple" = none) (he : PRg X e te) (na : starEach [e] X.env = (false, eval e X.env) :: starEach [] X.env := by rfl) : PE X (.Call (.Name "tuple" p) [e] [] pos) (tTupRgF te) := by
  constructor
  intro pn s0 st G Q J want
  have one := he pn s0 st G _ J want
  refine Call_ (ld_blt J hg hm boot_tuple (callWith_type1 (args_cons (thn one ?_) na) na))
  rintro x s1 ⟨r, a, b, t, u, v, G1, rfl, rg, J1, ⟨o1, o2, o3, o4, o5⟩, k⟩
  refine args_nil (call_tuple_range (n := (b - a).toNat) (J1.ok.hd hc) rg (small_one o1 o2 o3 o4) (rangeSize_nat a b) o5 ?_)
  intro h2 tk acc keep its
  have few : (rgV a b).length ≤ sizeLine := by rw [rgV_length, sizeLine_eq]; omega
  have fin := laidT (J1.kept (t' := tk) keep) (vals_rg its) few (k G1 (Evl.Ex.refl _))
  rwa [Array.toArray_toList] at fin
/-- indexing -/
def rIxX (K : PySem.W.Frag) : R2 := fun x y H Q => rIxL K x y H Q ∨ rIxT K x y H Q ∨ rIxS x y H Q
theorem kx_X (hK : X.K = K) : IxR X (rIxX K) := by
  intro value slice pins s σ H x y v u Q I rx ry h
  rcases h with h | h | h
  · exact kx_list hK value slice pins s σ H x y v u Q I rx ry h
  · exact kx_tup hK value slice pins s σ H x y v u Q I rx ry h
  · exact ix_str value slice pins s σ H x y v u Q I rx ry h
/-- len -/
def rLenX (K : PySem.W.Frag) : List V → Hp → VK → Prop := fun xs H Q => rLenOf K xs H Q ∨ (∃ z, xs = [.str z] ∧ z.length ≤ sizeLine ∧ Q (.int z.length) H) ∨ (∃ d kvs, xs = [.ref d] ∧ H d = some (.dK kvs) ∧ Q (.int kvs.length) H)
theorem k_lenX (hK : X.K = K) : CallR X (.builtin "len") (rLenX K) := by
  intro pins s σ H xs us Q I r h
  rcases h with h | h | ⟨d, kvs, e, h, q⟩
  · exact k_len hK pins s σ H xs us Q I r h
  · exact call_len_str pins s σ H xs us Q I r h
  · exact call_lenD pins s σ H xs us Q I r ⟨d, kvs, e, h, q⟩
/-- in -/
def rInD (K : PySem.W.Frag) (neg : Bool) : R2 := fun x y H Q => ∃ d ds, Dp K H x d ∧ (Dp K H y (.list ds) ∨ Dp K H y (.tuple ds)) ∧ shp d = true ∧ shp (.list ds) = true ∧ Q (.bl (neg != ds.any fun e => PyData.eqv e d)) H
open Classical in
noncomputable def eqR (h : Heap) (d : PyData) (u : Value) : Bool := if q : ∃ e as, Reads h u e as then PyData.eqv q.choose d else false
theorem eqR_of {h : Heap} {d e : PyData} {u : Value} {as : List Addr} (r : Reads h u e as) : eqR h d u = PyData.eqv e d := by
  have q : ∃ e as, Reads h u e as := ⟨e, as, r⟩
  unfold eqR
  rw [dif_pos q]
  obtain ⟨bs, r2⟩ := q.choose_spec
  rw [(reads_det (fun _ _ x _ => x) r r2).1]
theorem any_eqR {h : Heap} {d : PyData} : ∀ {us : List Value} {ds : List PyData} {as : List Addr}, ReadsAll h us ds as → us.any (eqR h d) = ds.any fun e => PyData.eqv e d
  | _, _, _, .nil => rfl
  | _, _, _, .cons r t => by rw [List.any_cons, List.any_cons, eqR_of r, any_eqR t]
theorem canLay_mem {ds : List PyData} (h : PyData.canLayAll0 ds = true) : ∀ e ∈ ds, e.canLay0 = true := by
  induction ds with
  | nil => intro e he; cases he
  | cons x xs ih =>
    simp only [PyData.canLayAll0, Bool.and_eq_true] at h
    intro e he
    rcases List.mem_cons.mp he with rfl | he
    · exact h.1
    · exact ih h.2 e he
theorem mem_eqR {A : Around} {s : Shared} {d : PyData} {v : Value} {bs : List Addr} (rv : Reads s.heap v d bs) (hd : d.canLay0 = true) (hdep : A.units + d.depth < cLine) : ∀ {us : List Value} {ds : List PyData} {as : List Addr}, ReadsAll s.heap us ds as → PyData.canLayAll0 ds = true → ∀ u ∈ us, SeqAt.EqAt A s u v (eqR s.heap d u)
  | _, _, _, .nil, _ => fun u hu => by cases hu
  | _, _, _, .cons r t, z => fun u hu => by
    simp only [PyData.canLayAll0, Bool.and_eq_true] at z
    rcases List.mem_cons.mp hu with rfl | hu
    · rw [eqR_of r]
      exact fun prog w E Q hQ => SeqAt.eqBoolOverData prog w A E s _ _ _ _ _ _ Q r rv z.1 hd (Nat.lt_of_le_of_lt (Nat.add_le_add_left (Nat.min_le_right _ _) _) hdep) hQ
    · exact mem_eqR rv hd hdep t z.2 u hu
theorem ko_inD (hK : X.K = K) (hu : X.A.units + 64 < cLine) : OpR X (compareOp .In) (rInD K false) := by
  subst hK
  intro pins s σ H x y v u Q I rx ry h
  obtain ⟨d, ds, hd, hy, sd, sds, q⟩ := h
  have cd := shp_lay sd
  have cds : PyData.canLayAll0 ds = true := by simpa [PyData.canLay0] using shp_lay sds
  have dd := shp_dep sd
  have hu1 : X.A.in1.units = X.A.units + 1 := rfl
  obtain ⟨bs, r1⟩ := Dp.reads I d x v hd rx
  rcases hy with hy | hy
  · cases hy with
    | lst hs ha =>
      cases ry
      obtain ⟨its, rv, pl, hz⟩ := I.list hs
      obtain ⟨as, ra⟩ := Dp.readsAll I ds _ its ha rv
      refine SeqAt.in_listAt (eqR s.heap d) pl.isList (fun w hw => mem_eqR r1 cd (by omega) ra cds w (by simpa using hw)) ⟨.bl _, H, I, rfl, ?_⟩
      rw [show its.toArray.any (eqR s.heap d) = its.any (eqR s.heap d) by simp, any_eqR ra]
      simpa using q
  · cases hy with
    | tup hs ha =>
      cases ry
      obtain ⟨its, rv, pl, hz⟩ := I.tuple hs
      obtain ⟨as, ra⟩ := Dp.readsAll I ds _ its ha rv
      refine SeqAt.in_tupleAt (eqR s.heap d) pl (fun w hw => mem_eqR r1 cd (by omega) ra cds w (by simpa using hw)) ⟨.bl _, H, I, rfl, ?_⟩
      rw [show its.toArray.any (eqR s.heap d) = its.any (eqR s.heap d) by simp, any_eqR ra]
      simpa using q
theorem ko_notInD (hK : X.K = K) (hu : X.A.units + 64 < cLine) : OpR X (compareOp .NotIn) (rInD K true) := by
  subst hK
  intro pins s σ H x y v u Q I rx ry h
  obtain ⟨d, ds, hd, hy, sd, sds, q⟩ := h
  have cd := shp_lay sd
  have cds : PyData.canLayAll0 ds = true := by simpa [PyData.canLay0] using shp_lay sds
  have dd := shp_dep sd
  have hu1 : X.A.in1.units = X.A.units + 1 := rfl
  obtain ⟨bs, r1⟩ := Dp.reads I d x v hd rx
  rcases hy with hy | hy
  · cases hy with
    | lst hs ha =>
      cases ry
      obtain ⟨its, rv, pl, hz⟩ := I.list hs
      obtain ⟨as, ra⟩ := Dp.readsAll I ds _ its ha rv
      refine SeqAt.notIn_listAt (eqR s.heap d) pl.isList (fun w hw => mem_eqR r1 cd (by omega) ra cds w (by simpa using hw)) ⟨.bl _, H, I, rfl, ?_⟩
      rw [show its.toArray.any (eqR s.heap d) = its.any (eqR s.heap d) by simp, any_eqR ra]
      simpa using q
  · cases hy with
    | tup hs ha =>
      cases ry
      obtain ⟨its, rv, pl, hz⟩ := I.tuple hs
      obtain ⟨as, ra⟩ := Dp.readsAll I ds _ its ha rv
      refine SeqAt.notIn_tupleAt (eqR s.heap d) pl (fun w hw => mem_eqR r1 cd (by omega) ra cds w (by simpa using hw)) ⟨.bl _, H, I, rfl, ?_⟩
      rw [show its.toArray.any (eqR s.heap d) = its.any (eqR s.heap d) by simp, any_eqR ra]
      simpa using q
end
end Lr

namespace Lr
open PySem L2 PySem.Spec PyProof.Rows
section
variable {hid : Addr → Prop} {own : Ix → Option Addr} {H : Hp} {Q : VK} {P : SV → Prop} {xs : List V} {ds : List PyData}
/-- a new tuple, a new list, of known items -/
theorem new_tup (ho : ∀ p, H p = none → ¬ Oo hid own p) (h : DdAll (Bh hid own H) xs ds) (hp : P (.d (.tuple ds))) (k : ∀ s v H', P s → Ex H H' → Re (Bh hid own H') v s → Q v H') : newT xs H Q := fun p o hn hd => by
  have e := Evl.Ex.new hn (o := .frz o (.tup xs))
  refine k _ _ _ hp e (.tup ⟨o, ?_, hd⟩ (h.mono (hide_mono e)))
  exact (hide_of (ho p hn)).trans upd_same
theorem new_lst (ho : ∀ p, H p = none → ¬ Oo hid own p) (h : DdAll (Bh hid own H) xs ds) (hp : P (.d (.list ds))) (k : ∀ s v H', P s → Ex H H' → Re (Bh hid own H') v s → Q v H') : ∀ p, H p = none → Q (.ref p) (upd H p (.lst xs)) := fun p hn => by
  have e := Evl.Ex.new hn (o := .lst xs)
  refine k _ _ _ hp e (.lst ?_ (h.mono (hide_mono e)))
  exact (hide_of (ho p hn)).trans upd_same
end
/-! ### operators -/
def fAdd : W2 := fun x y P => match x, y with
  | .d (.int i), .d (.int j) => P (.d (.int (i + j)))
  | .d (.str a), .d (.str b) => a.length + b.length ≤ 100000 ∧ P (.d (.str (a ++ b)))
  | .d (.list a), .d (.list b) => a.length + b.length ≤ 100000 ∧ P (.d (.list (a ++ b)))
  | .d (.tuple a), .d (.tuple b) => a.length + b.length ≤ 100000 ∧ P (.d (.tuple (a ++ b)))
  | _, _ => False
instance do_add {K : PySem.W.Frag} : DO (rAdd K) fAdd := ⟨fun hid own H x y sx sy P Q ho rx ry hf k => by
  unfold fAdd at hf
  split at hf
  · rw [rx.int, ry.int]
    exact .inl ⟨_, _, rfl, rfl, k _ _ H hf (Evl.Ex.refl H) (.int _)⟩
  · rw [rx.str, ry.str]
    exact .inr (.inl ⟨_, _, rfl, rfl, Evl.sz_of hf.1, k _ _ H hf.2 (Evl.Ex.refl H) (.str _)⟩)
  · obtain ⟨a, vs, rfl, h1, t1⟩ := rx.list
    obtain ⟨b, ws, rfl, h2, t2⟩ := ry.list
    exact .inr (.inr (.inl ⟨a, b, vs, ws, rfl, rfl, h1, h2, by rw [t1.len, t2.len]; exact Evl.sz_of hf.1, new_lst ho (t1.app t2) hf.2 k⟩))
  · obtain ⟨a, vs, rfl, h1, t1⟩ := rx.tuple
    obtain ⟨b, ws, rfl, h2, t2⟩ := ry.tuple
    refine .inr (.inr (.inr ⟨a, b, vs, ws, rfl, rfl, (h1.ex hide_ex).sq, (h2.ex hide_ex).sq, by rw [t1.len, t2.len]; exact Evl.sz_of hf.1, fun z => ?_, fun _ z => ?_, fun _ _ => new_tup ho (t1.app t2) hf.2 k⟩))
    · subst z
      cases t1
      exact k _ _ H hf.2 (Evl.Ex.refl H) (.tup h2 t2)
    · subst z
      cases t2
      exact k (.d (.tuple _)) _ H (by simpa using hf.2) (Evl.Ex.refl H) (.tup h1 t1)
  · exact hf.elim⟩
def fEq : W2 := fun x y P => match x, y with
  | .d a, .d b => shp a = true ∧ shp b = true ∧ P (.d (.bool (PyData.eqv a b)))
  | _, _ => False
def fNe : W2 := fun x y P => match x, y with
  | .d a, .d b => shp a = true ∧ shp b = true ∧ P (.d (.bool (!PyData.eqv a b)))
  | _, _ => False
instance do_eq {K : PySem.W.Frag} : DO (rEqD K) fEq := ⟨fun hid own H x y sx sy P Q ho rx ry hf k => by
  unfold fEq at hf
  split at hf
  · exact ⟨_, _, rx.dd.dp (shp_lay hf.1), ry.dd.dp (shp_lay hf.2.1), shp_sh hf.1, shp_sh hf.2.1, k _ _ H hf.2.2 (Evl.Ex.refl H) (.bl _)⟩
  · exact hf.elim⟩
instance do_ne {K : PySem.W.Frag} : DO (rNeD K) fNe := ⟨fun hid own H x y sx sy P Q ho rx ry hf k => by
  unfold fNe at hf
  split at hf
  · exact ⟨_, _, rx.dd.dp (shp_lay hf.1), ry.dd.dp (shp_lay hf.2.1), shp_sh hf.1, shp_sh hf.2.1, k _ _ H hf.2.2 (Evl.Ex.refl H) (.bl _)⟩
  · exact hf.elim⟩
def fIn (neg : Bool) : W2 := fun x y P => match x, y with
  | .d a, .d (.list b) => shp a = true ∧ shp (.list b) = true ∧ P (.d (.bool (neg != b.any fun e => PyData.eqv e a)))
  | .d a, .d (.tuple b) => shp a = true ∧ shp (.list b) = true ∧ P (.d (.bool (neg != b.any fun e => PyData.eqv e a)))
  | _, _ => False
instance do_in {K : PySem.W.Frag} {neg : Bool} : DO (rInD K neg) (fIn neg) := ⟨fun hid own H x y sx sy P Q ho rx ry hf k => by
  unfold fIn at hf
  split at hf
  · exact ⟨_, _, rx.dd.dp (shp_lay hf.1), .inl (ry.dd.dp (shp_lay hf.2.1)), hf.1, hf.2.1, k _ _ H hf.2.2 (Evl.Ex.refl H) (.bl _)⟩
  · exact ⟨_, _, rx.dd.dp (shp_lay hf.1), .inr (ry.dd.dp (by simpa [PyData.canLay0] using shp_lay hf.2.1)), hf.1, hf.2.1, k _ _ H hf.2.2 (Evl.Ex.refl H) (.bl _)⟩
  · exact hf.elim⟩
theorem DdAll.atI {H : Hp} {vs : List V} {ds : List PyData} {i : Int} {d : PyData} (h : DdAll H vs ds) (e : L2.atI ds i = some d) : ∃ v, L2.atI vs i = some v ∧ Dd H v d := by
  unfold L2.atI at e ⊢
  rw [h.len]
  cases q : ixN ds.length i with
  | none => rw [q] at e; cases e
  | some j =>
    rw [q] at e
    exact h.getD e
def fIx : W2 := fun x y P => match x, y with
  | .d (.list a), .d (.int i) => ∃ d, L2.atI a i = some d ∧ P (.d d)
  | .d (.tuple a), .d (.int i) => ∃ d, L2.atI a i = some d ∧ P (.d d)
  | .d (.str a), .d (.int i) => a.length ≤ 100000 ∧ ∃ c, L2.atI a.cps.toList i = some c ∧ P (.d (.str ⟨#[c]⟩))
  | _, _ => False
instance do_ix {K : PySem.W.Frag} : DO (rIxX K) fIx := ⟨fun hid own H x y sx sy P Q ho rx ry hf k => by
  unfold fIx at hf
  split at hf
  · obtain ⟨d, hd, hp⟩ := hf
    obtain ⟨a, vs, rfl, h1, t1⟩ := rx.list
    obtain ⟨v, hv, dv⟩ := t1.atI hd
    rw [ry.int]
    exact .inl ⟨a, vs, _, v, rfl, rfl, SqL.of h1, hv, k _ _ H hp (Evl.Ex.refl H) dv⟩
  · obtain ⟨d, hd, hp⟩ := hf
    obtain ⟨a, vs, rfl, h1, t1⟩ := rx.tuple
    obtain ⟨v, hv, dv⟩ := t1.atI hd
    rw [ry.int]
    exact .inr (.inl ⟨a, vs, _, v, rfl, rfl, (h1.ex hide_ex).sq, hv, k _ _ H hp (Evl.Ex.refl H) dv⟩)
  · obtain ⟨hl, c, hc, hp⟩ := hf
    rw [rx.str, ry.int]
    exact .inr (.inr ⟨_, _, c, rfl, rfl, Evl.sz_of hl, hc, k _ _ H hp (Evl.Ex.refl H) (.str _)⟩)
  · exact hf.elim⟩
def rIsN : R2 := fun x y H Q => y = .non ∧ Q (.bl (decide (x = .non))) H
def rNotN : R2 := fun x y H Q => y = .non ∧ Q (.bl (!decide (x = .non))) H
theorem ko_isN {X : Cx} : OpR X (compareOp .Is) rIsN := op_isN
theorem ko_notN {X : Cx} : OpR X (compareOp .IsNot) rNotN := op_notN
def isNone : PyData → Bool
  | .none => true
  | _ => false
theorem none_dec {H : Hp} {v : V} {d : PyData} (h : Dd H v d) : decide (v = .non) = isNone d := by
  cases h <;> first | rfl | exact decide_eq_false (fun z => nomatch z)
def fIsN (neg : Bool) : W2 := fun x y P => match x, y with
  | .d a, .d .none => P (.d (.bool (neg != isNone a)))
  | _, _ => False
instance do_isN : DO rIsN (fIsN false) := ⟨fun hid own H x y sx sy P Q ho rx ry hf k => by
  unfold fIsN at hf
  split at hf
  · rw [ry.non]
    refine ⟨rfl, k _ _ H hf (Evl.Ex.refl H) ?_⟩
    rw [none_dec rx.dd]
    simp
    exact .bl _
  · exact hf.elim⟩
instance do_notN : DO rNotN (fIsN true) := ⟨fun hid own H x y sx sy P Q ho rx ry hf k => by
  unfold fIsN at hf
  split at hf
  · rw [ry.non]
    refine ⟨rfl, k _ _ H hf (Evl.Ex.refl H) ?_⟩
    rw [none_dec rx.dd]
    simp
    exact .bl _
  · exact hf.elim⟩
def fU (g : Int → Int) : W1 := fun x P => match x with
  | .d (.int i) => P (.d (.int (g i)))
  | _ => False
instance du_int {g : Int → Int} : DU (rU fun i => .int (g i)) (fU g) := ⟨fun hid own H x sx P Q ho rx hf k => by
  unfold fU at hf
  split at hf
  · rw [rx.int]
    exact ⟨_, rfl, k _ _ H hf (Evl.Ex.refl H) (.int _)⟩
  · exact hf.elim⟩
/-! ### tests -/
def asB (x : SV) (P : Bool → Prop) : Prop := match x with
  | .d (.bool b) => P b
  | _ => False
def wB (w : WE) : WT := fun ρ P => w ρ fun x => asB x P
theorem lt_of {t : TE} {w : WE} [h : LE t w] {hs hid own H σ ρ} {P : Bool → Prop} {Q : Bool → Hp → Prop} (r : Rep hs hid own H σ ρ) (hw : wB w ρ P) (k : ∀ b H', P b → Ex H H' → Q b H') : t σ H fun x H1 => ∃ c, x = .bl c ∧ Q c H1 := by
  refine h.go hs hid own H σ ρ _ _ r hw fun s v H' p e q => ?_
  unfold asB at p
  split at p
  · cases q
    exact ⟨_, rfl, k _ H' p e⟩
  · exact p.elim
instance lt_B {t : TE} {w : WE} [h : LE t w] : LT (tB t) (wB w) := ⟨fun hs hid own H σ ρ P Q r hw k => lt_of r hw k⟩
instance lt_test {t : TE} {w : WE} [h : LE t w] : LT (tTest t) (wB w) := ⟨fun hs hid own H σ ρ P Q r hw k => lt_of r hw k⟩
def wAnd (a b : WT) : WT := fun ρ P => a ρ fun c => if c = true then b ρ P else P false
def wOr (a b : WT) : WT := fun ρ P => a ρ fun c => if c = true then P true else b ρ P
def wNot (a : WT) : WT := fun ρ P => a ρ fun c => P (!c)
def wYes : WT := fun _ P => P true
instance lt_and {t u : TT} {a b : WT} [ha : LT t a] [hb : LT u b] : LT (tAnd t u) (wAnd a b) := ⟨fun hs hid own H σ ρ P Q r hw k => by
  refine ha.go hs hid own H σ ρ _ _ r hw fun c H' p e => ?_
  cases c with
  | true => exact iteT (hb.go hs hid own H' σ ρ P Q (r.mono e) (by simpa using p) fun b H2 pb e2 => k b H2 pb (e.trans e2))
  | false => exact iteF (k _ H' (by simpa using p) e)⟩
instance lt_or {t u : TT} {a b : WT} [ha : LT t a] [hb : LT u b] : LT (tOr t u) (wOr a b) := ⟨fun hs hid own H σ ρ P Q r hw k => by
  refine ha.go hs hid own H σ ρ _ _ r hw fun c H' p e => ?_
  cases c with
  | true => exact iteT (k _ H' (by simpa using p) e)
  | false => exact iteF (hb.go hs hid own H' σ ρ P Q (r.mono e) (by simpa using p) fun b H2 pb e2 => k b H2 pb (e.trans e2))⟩
instance lt_not {t : TT} {a : WT} [ha : LT t a] : LT (tNot t) (wNot a) := ⟨fun hs hid own H σ ρ P Q r hw k => ha.go hs hid own H σ ρ _ _ r hw fun c H' p e => k _ H' p e⟩
instance lt_yes : LT tYes wYes := ⟨fun hs hid own H σ ρ P Q r hw k => k _ H hw (Evl.Ex.refl H)⟩
def wAndV (a b : WE) : WE := fun ρ P => a ρ fun x => asB x fun c => if c = true then b ρ P else P (.d (.bool false))
def wOrV (a b : WE) : WE := fun ρ P => a ρ fun x => asB x fun c => if c = true then P (.d (.bool true)) else b ρ P
def wNotV (a : WE) : WE := fun ρ P => a ρ fun x => asB x fun c => P (.d (.bool (!c)))
instance le_andV {t u : TE} {a b : WE} [ha : LE t a] [hb : LE u b] : LE (tAndV t u) (wAndV a b) := ⟨fun hs hid own H σ ρ P Q r hw k => by
  refine ha.go hs hid own H σ ρ _ _ r hw fun s v H' p e q => ?_
  unfold asB at p
  split at p
  · cases q
    rename_i c
    refine ⟨_, rfl, ?_⟩
    cases c with
    | true => exact iteT (hb.go hs hid own H' σ ρ P Q (r.mono e) (by simpa using p) fun s v H2 pb e2 => k s v H2 pb (e.trans e2))
    | false => exact iteF (k (.d (.bool false)) _ H' (by simpa using p) e (.bl _))
  · exact p.elim⟩
instance le_orV {t u : TE} {a b : WE} [ha : LE t a] [hb : LE u b] : LE (tOrV t u) (wOrV a b) := ⟨fun hs hid own H σ ρ P Q r hw k => by
  refine ha.go hs hid own H σ ρ _ _ r hw fun s v H' p e q => ?_
  unfold asB at p
  split at p
  · cases q
    rename_i c
    refine ⟨_, rfl, ?_⟩
    cases c with
    | true => exact iteT (k (.d (.bool true)) _ H' (by simpa using p) e (.bl _))
    | false => exact iteF (hb.go hs hid own H' σ ρ P Q (r.mono e) (by simpa using p) fun s v H2 pb e2 => k s v H2 pb (e.trans e2))
  · exact p.elim⟩
instance le_notV {t : TE} {a : WE} [ha : LE t a] : LE (tNotV t) (wNotV a) := ⟨fun hs hid own H σ ρ P Q r hw k => by
  refine ha.go hs hid own H σ ρ _ _ r hw fun s v H' p e q => ?_
  unfold asB at p
  split at p
  · cases q
    exact ⟨_, rfl, k _ _ H' p e (.bl _)⟩
  · exact p.elim⟩
def wIf (c : WT) (a b : WE) : WE := fun ρ P => c ρ fun t => if t = true then a ρ P else b ρ P
instance le_if {c : TT} {t u : TE} {wc : WT} {a b : WE} [hc : LT c wc] [ha : LE t a] [hb : LE u b] : LE (tIf c t u) (wIf wc a b) := ⟨fun hs hid own H σ ρ P Q r hw k => by
  refine hc.go hs hid own H σ ρ _ _ r hw fun c H' p e => ?_
  cases c with
  | true => exact iteT (ha.go hs hid own H' σ ρ P Q (r.mono e) (by simpa using p) fun s v H2 pb e2 => k s v H2 pb (e.trans e2))
  | false => exact iteF (hb.go hs hid own H' σ ρ P Q (r.mono e) (by simpa using p) fun s v H2 pb e2 => k s v H2 pb (e.trans e2))⟩
/-- a op b op c -/
def wChain (f g : W2) (wa wb wc : WE) : WE := fun ρ P => wa ρ fun x => wb ρ fun y => f x y fun z => asB z fun t => if t = true then wc ρ fun u => g y u P else P (.d (.bool false))
instance le_chain {r r' : R2} {f g : W2} {ta tb tc : TE} {wa wb wc : WE} [d : DO r f] [d' : DO r' g] [a : LB ta wa] [b : LB tb wb] [c : LB tc wc] : LE (tChain r r' ta tb tc) (wChain f g wa wb wc) := ⟨fun hs hid own H σ ρ P Q rp hw k => by
  refine a.go hs hid own H σ ρ _ _ rp hw fun sx x H1 hx e1 rx => ?_
  refine b.go hs hid own H1 σ ρ _ _ (rp.mono e1) hx fun sy y H2 hy e2 ry => ?_
  have rp2 := (rp.mono e1).mono e2
  refine d.go hid own H2 x y sx sy _ _ (fun p hp => rp2.notO hp) (rx.mono e2) ry hy fun s v H3 p e3 q => ?_
  unfold asB at p
  split at p
  · cases q
    rename_i t
    refine ⟨_, rfl, ?_⟩
    cases t with
    | true =>
      refine iteT (c.go hs hid own H3 σ ρ _ _ (rp2.mono e3) (by simpa using p) fun su u H4 hu e4 ru => ?_)
      exact d'.go hid own H4 y u sy su P Q (fun p hp => ((rp2.mono e3).mono e4).notO hp) ((ry.mono e3).mono e4) ru hu fun s v H' p e q => k s v H' p ((((e1.trans e2).trans e3).trans e4).trans e) q
    | false => exact iteF (k (.d (.bool false)) _ H3 (by simpa using p) ((e1.trans e2).trans e3) (.bl _))
  · exact p.elim⟩
/-! ### arguments, displays -/
def wNil : WA := fun _ P => P []
def wCons (a : WE) (r : WA) : WA := fun ρ P => a ρ fun x => r ρ fun xs => P (x :: xs)
instance la_nil : LA tNil wNil := ⟨fun hs hid own H σ ρ P Q r hw k => k _ _ H hw (Evl.Ex.refl H) .nil⟩
instance lab_nil : LAB tNil wNil := ⟨fun hs hid own H σ ρ P Q r hw k => k _ _ H hw (Evl.Ex.refl H) .nil⟩
instance la_cons {t : TE} {u : TA} {a : WE} {b : WA} [ha : LE t a] [hb : LA u b] : LA (tCons t u) (wCons a b) := ⟨fun hs hid own H σ ρ P Q r hw k => by
  refine ha.go hs hid own H σ ρ _ _ r hw fun s v H1 p e1 q => ?_
  exact hb.go hs hid own H1 σ ρ _ _ (r.mono e1) p fun ss vs H2 p2 e2 q2 => k _ _ H2 p2 (e1.trans e2) (.cons (q.mono (hide_mono e2)) q2)⟩
instance lab_cons {t : TE} {u : TA} {a : WE} {b : WA} [ha : LB t a] [hb : LAB u b] : LAB (tCons t u) (wCons a b) := ⟨fun hs hid own H σ ρ P Q r hw k => by
  refine ha.go hs hid own H σ ρ _ _ r hw fun s v H1 p e1 q => ?_
  exact hb.go hs hid own H1 σ ρ _ _ (r.mono e1) p fun ss vs H2 p2 e2 q2 => k _ _ H2 p2 (e1.trans e2) (.cons (q.mono e2) q2)⟩
/-- all of them data -/
def allD : List SV → Option (List PyData)
  | [] => some []
  | .d x :: r => (allD r).map (x :: ·)
  | _ => none
theorem ReAll.dd {B : Hp} : ∀ {vs : List V} {ss : List SV} {ds : List PyData}, ReAll B vs ss → allD ss = some ds → DdAll B vs ds
  | _, _, _, .nil, h => by cases h; exact .nil
  | _, .d x :: ss, ds, .cons a t, h => by
    unfold allD at h
    cases q : allD ss with
    | none => rw [q] at h; cases h
    | some es => rw [q] at h; cases h; exact .cons a (t.dd q)
def asDs (ss : List SV) (P : List PyData → Prop) : Prop := match allD ss with
  | some ds => P ds
  | none => False
def wTup (a : WA) : WE := fun ρ P => a ρ fun ss => asDs ss fun ds => ds.length ≤ 100000 ∧ P (.d (.tuple ds))
def wLst (a : WA) : WE := fun ρ P => a ρ fun ss => asDs ss fun ds => ds.length ≤ 100000 ∧ P (.d (.list ds))
instance le_tup {t : TA} {a : WA} [ha : LA t a] : LE (tTupF t) (wTup a) := ⟨fun hs hid own H σ ρ P Q r hw k => by
  refine ha.go hs hid own H σ ρ _ _ r hw fun ss vs H1 p e1 q => ?_
  unfold asDs at p
  split at p
  · rename_i ds hd
    have t := q.dd hd
    exact ⟨by rw [t.len]; exact Evl.sz_of p.1, new_tup (fun p hp => (r.mono e1).notO hp) t p.2 fun s v H' p e => k s v H' p (e1.trans e)⟩
  · exact p.elim⟩
instance le_lst {t : TA} {a : WA} [ha : LA t a] : LE (tLst t) (wLst a) := ⟨fun hs hid own H σ ρ P Q r hw k => by
  refine ha.go hs hid own H σ ρ _ _ r hw fun ss vs H1 p e1 q => ?_
  unfold asDs at p
  split at p
  · rename_i ds hd
    have t := q.dd hd
    exact ⟨by rw [t.len]; exact Evl.sz_of p.1, new_lst (fun p hp => (r.mono e1).notO hp) t p.2 fun s v H' p e => k s v H' p (e1.trans e)⟩
  · exact p.elim⟩
/-! ### slices -/
abbrev WO := Ro → (Option Int → Prop) → Prop
class LO (t : TO) (w : outParam WO) : Prop where
  go : ∀ hs hid own H σ ρ (P : Option Int → Prop) (Q : Option Int → Hp → Prop), Rep hs hid own H σ ρ → w ρ P → (∀ o H', P o → Ex H H' → Q o H') → t σ H Q
def wNoPart : WO := fun _ P => P none
def asI (x : SV) (P : Int → Prop) : Prop := match x with
  | .d (.int i) => P i
  | _ => False
def wPart (a : WE) : WO := fun ρ P => a ρ fun x => asI x fun i => P (some i)
instance lo_no : LO tNoPart wNoPart := ⟨fun hs hid own H σ ρ P Q r hw k => k _ H hw (Evl.Ex.refl H)⟩
instance lo_part {t : TE} {a : WE} [ha : LE t a] : LO (tPart t) (wPart a) := ⟨fun hs hid own H σ ρ P Q r hw k => by
  refine ha.go hs hid own H σ ρ _ _ r hw fun s v H1 p e1 q => ?_
  unfold asI at p
  split at p
  · cases q
    exact ⟨_, rfl, k _ H1 p e1⟩
  · exact p.elim⟩
def cutD (xs : List PyData) (lo hi : Option Int) : List PyData := (xs.drop (HT.sIx xs.length 0 lo)).take (HT.sIx xs.length xs.length hi - HT.sIx xs.length 0 lo)
theorem DdAll.cut {H : Hp} {vs : List V} {ds : List PyData} (h : DdAll H vs ds) (lo hi : Option Int) : DdAll H (cutV vs lo hi) (cutD ds lo hi) := by
  unfold cutV cutD
  rw [h.len]
  exact (h.drop _).take _
def fSl (x : SV) (lo hi : Option Int) (P : SV → Prop) : Prop := match x with
  | .d (.list a) => P (.d (.list (cutD a lo hi)))
  | .d (.tuple a) => P (.d (.tuple (cutD a lo hi)))
  | .d (.str a) => a.length ≤ 100000 ∧ P (.d (.str (cutS a lo hi)))
  | _ => False
def wSl (a : WE) (l u : WO) : WE := fun ρ P => a ρ fun x => l ρ fun i => u ρ fun j => fSl x i j P
instance le_sl {K : PySem.W.Frag} {te : TE} {tl th : TO} {a : WE} {l u : WO} [ha : LB te a] [hl : LO tl l] [hu : LO th u] : LE (tSl (rSlX K) te tl th) (wSl a l u) := ⟨fun hs hid own H σ ρ P Q r hw k => by
  refine ha.go hs hid own H σ ρ _ _ r hw fun s v H1 p e1 q => ?_
  refine hl.go hs hid own H1 σ ρ _ _ (r.mono e1) p fun i H2 p2 e2 => ?_
  refine hu.go hs hid own H2 σ ρ _ _ ((r.mono e1).mono e2) p2 fun j H3 p3 e3 => ?_
  have r3 := ((r.mono e1).mono e2).mono e3
  have q3 := (q.mono e2).mono e3
  have ee := (e1.trans e2).trans e3
  have k3 : ∀ s v H', P s → Ex H3 H' → Re (Bh hid own H') v s → Q v H' := fun s v H' p e => k s v H' p (ee.trans e)
  unfold fSl at p3
  split at p3
  · obtain ⟨a, vs, rfl, h1, t1⟩ := q3.list
    exact .inr (.inl ⟨a, vs, rfl, SqL.of h1, new_lst (fun p hp => r3.notO hp) (t1.cut i j) p3 k3⟩)
  · obtain ⟨a, vs, rfl, h1, t1⟩ := q3.tuple
    refine .inl ⟨a, vs, rfl, (h1.ex hide_ex).sq, fun z => ?_, fun _ => new_tup (fun p hp => r3.notO hp) (t1.cut i j) p3 k3⟩
    have t2 := t1.cut i j
    rw [cut_whole z] at t2
    exact k3 _ _ H3 p3 (Evl.Ex.refl _) (.tup h1 t2)
  · rw [q3.str]
    exact .inr (.inr ⟨_, rfl, Evl.sz_of p3.1, k3 _ _ H3 p3.2 (Evl.Ex.refl _) (.str _)⟩)
  · exact p3.elim⟩
/-! ### calls of built-ins -/
abbrev WC := List SV → (SV → Prop) → Prop
class DC (r : List V → Hp → VK → Prop) (f : outParam WC) : Prop where
  go : ∀ hid own H vs ss (P : SV → Prop) (Q : VK), (∀ p, H p = none → ¬ Oo hid own p) → RbAll hid own H vs ss → f ss P → (∀ s v H', P s → Ex H H' → Re (Bh hid own H') v s → Q v H') → r vs H Q
def wCB (f : WC) (a : WA) : WE := fun ρ P => a ρ fun ss => f ss P
instance le_cb {r : List V → Hp → VK → Prop} {f : WC} {t : TA} {a : WA} [d : DC r f] [ha : LAB t a] : LE (tCB r t) (wCB f a) := ⟨fun hs hid own H σ ρ P Q r hw k => by
  refine ha.go hs hid own H σ ρ _ _ r hw fun ss vs H1 p e1 q => ?_
  exact d.go hid own H1 vs ss P Q (fun p hp => (r.mono e1).notO hp) q p fun s v H' p e => k s v H' p (e1.trans e)⟩
theorem rb1 {hid : Addr → Prop} {own : Ix → Option Addr} {H : Hp} {vs : List V} {s : SV} (h : RbAll hid own H vs [s]) : ∃ v, vs = [v] ∧ Rb hid own H v s := by
  cases h with
  | cons a t => cases t; exact ⟨_, rfl, a⟩
theorem rb2 {hid : Addr → Prop} {own : Ix → Option Addr} {H : Hp} {vs : List V} {s s2 : SV} (h : RbAll hid own H vs [s, s2]) : ∃ v v2, vs = [v, v2] ∧ Rb hid own H v s ∧ Rb hid own H v2 s2 := by
  cases h with
  | cons a t =>
    cases t with
    | cons b t => cases t; exact ⟨_, _, rfl, a, b⟩
def fLen : WC := fun ss P => match ss with
  | [.d (.list a)] => P (.d (.int a.length))
  | [.d (.tuple a)] => P (.d (.int a.length))
  | [.d (.str a)] => a.length ≤ 100000 ∧ P (.d (.int a.length))
  | [.d (.dict a)] => P (.d (.int a.length))
  | _ => False
theorem DdKv.len {H : Hp} : ∀ {vs : List (Key × V)} {ds : List (PyData × PyData)}, DdKv H vs ds → vs.length = ds.length
  | _, _, .nil => rfl
  | _, _, .cons _ t => congrArg (· + 1) t.len
instance dc_len {K : PySem.W.Frag} : DC (rLenX K) fLen := ⟨fun hid own H vs ss P Q ho q hf k => by
  unfold fLen at hf
  split at hf
  · obtain ⟨v, rfl, r⟩ := rb1 q
    obtain ⟨a, vs, rfl, h1, t1⟩ := r.list
    refine .inl ⟨a, vs, rfl, .inl (SqL.of h1), k _ _ H hf (Evl.Ex.refl H) ?_⟩
    rw [t1.len]; exact .int _
  · obtain ⟨v, rfl, r⟩ := rb1 q
    obtain ⟨a, vs, rfl, h1, t1⟩ := r.tuple
    refine .inl ⟨a, vs, rfl, .inr (h1.ex hide_ex).sq, k _ _ H hf (Evl.Ex.refl H) ?_⟩
    rw [t1.len]; exact .int _
  · obtain ⟨v, rfl, r⟩ := rb1 q
    rw [r.str]
    exact .inr (.inl ⟨_, rfl, Evl.sz_of hf.1, k _ _ H hf.2 (Evl.Ex.refl H) (.int _)⟩)
  · obtain ⟨v, rfl, r⟩ := rb1 q
    cases r.dd with
    | dic h t =>
      refine .inr (.inr ⟨_, _, rfl, h, k _ _ H hf (Evl.Ex.refl H) ?_⟩)
      rw [t.len]; exact .int _
  · exact hf.elim⟩
/-- isinstance(x, T) -/
def fIsi : WC := fun ss P => match ss with
  | [.d a, .ty T] => T ∈ ["str", "int", "bool", "tuple", "list", "dict"] ∧ P (.d (.bool (isiD T a)))
  | _ => False
instance dc_isi {K : PySem.W.Frag} : DC (rIsi K) fIsi := ⟨fun hid own H vs ss P Q ho q hf k => by
  unfold fIsi at hf
  split at hf
  · rename_i a T
    obtain ⟨v, v2, rfl, r, r2⟩ := rb2 q
    have e2 : v2 = .ty T := by
      rcases r2 with r2 | ⟨_, _, z, _⟩
      · exact r2
      · cases z
    rw [e2]
    exact isi_at _ hf.1 r.dd.dv (k _ _ H hf.2 (Evl.Ex.refl H) (.bl _))
  · exact hf.elim⟩
end Lr

namespace Lr
open PySem L2 PySem.Spec PyProof.Rows
/-! ### what is walked -/
def iAny (K : PySem.W.Frag) (tl : TE) : TI := fun σ H R => tl σ H fun x H1 => (∃ a, x = .ref a ∧ (∃ xs, SqL K H1 a xs) ∧ R (Itl K a) H1) ∨ (∃ a, x = .ref a ∧ (∃ xs, SqT K H1 a xs) ∧ R (Itt K a) H1) ∨ (∃ z, x = .str z ∧ R (Its z) H1)
theorem ki_any {X : Cx} {K : PySem.W.Frag} {tg l : Expr} {tl : TE} (hK : X.K = K) (hl : PE X l tl) : PI X tg l (iAny K tl) := by
  subst hK
  constructor
  intro pn s0 st G R J want
  refine thn (hl.run pn s0 st G _ J want) ?_
  rintro v s1 ⟨x, G1, J1, rel, ⟨a, rfl, ⟨xs, sq⟩, q⟩ | ⟨a, rfl, ⟨xs, sq⟩, q⟩ | ⟨z, rfl, q⟩⟩
  · cases rel
    obtain ⟨_, _, pl, _⟩ := J1.list sq
    exact wpAny_pyIter_list pl.isList (pi_one (tk := s1.toks) J1 _ (turn_list a _) ⟨_, Heap.get?_push_size _ rfl, rfl, rfl⟩ q)
  · cases rel
    obtain ⟨its, _, pl, _⟩ := J1.tuple sq
    exact wpAny_pyIter_tuple (items := its.toArray) pl (pi_one (tk := s1.toks) J1 _ (turn_tuple a _) ⟨_, Heap.get?_push_size _ rfl, rfl, rfl⟩ q)
  · obtain ⟨t, rfl⟩ := rel
    by_cases low : z.cps.all (· < 128) = true
    · exact wpAny_pyIter_ascii low (pi_one (tk := s1.toks) J1 _ (turn_str _ z t _ (.inl rfl)) ⟨_, Heap.get?_push_size _ rfl, rfl, rfl⟩ q)
    · exact wpAny_pyIter_wide (Bool.eq_false_iff.mpr low) (pi_one (tk := s1.toks) J1 _ (turn_str _ z t _ (.inr rfl)) ⟨_, Heap.get?_push_size _ rfl, rfl, rfl⟩ q)
/-- J walks xs, as long as B0 stays; each item is known in Bi -/
structure ItOk (B0 Bi : Hp) (J : It) (xs : List SV) : Prop where
  step : ∀ i s H', Ex B0 H' → xs[i]? = some s → J.go i H' ∧ ∀ v H'', J.yld i H' v H'' → H'' = H' ∧ Re Bi v s
  stop : ∀ H', Ex B0 H' → J.stop xs.length H'
/-- the same, each item a new tuple -/
structure ItOkW (B0 Bi : Hp) (J : It) (xs : List (List PyData)) : Prop where
  step : ∀ i s H', Ex B0 H' → xs[i]? = some s → J.go i H' ∧ ∀ v H'', J.yld i H' v H'' → ∃ T ws, v = .ref T ∧ H' T = none ∧ H'' = upd H' T (.tup ws) ∧ DdAll Bi ws s
  stop : ∀ H', Ex B0 H' → J.stop xs.length H'
abbrev WI := Ro → (List SV → Prop) → Prop
abbrev WIW := Ro → (List (List PyData) → Prop) → Prop
class LI (wi : TI) (w : outParam WI) : Prop where
  go : ∀ hs hid own H σ ρ (P : List SV → Prop) (R : It → Hp → Prop), Rep hs hid own H σ ρ → w ρ P → (∀ xs J H', P xs → Ex H H' → ItOk (Bh hid own H') (Bh hid own H') J xs → R J H') → wi σ H R
class LIB (wi : TI) (w : outParam WI) : Prop where
  go : ∀ hs hid own H σ ρ (P : List SV → Prop) (R : It → Hp → Prop), Rep hs hid own H σ ρ → w ρ P → (∀ xs J H', P xs → Ex H H' → ItOk H' (Bh hid own H') J xs → R J H') → wi σ H R
class LIW (wi : TI) (w : outParam WIW) : Prop where
  go : ∀ hs hid own H σ ρ (P : List (List PyData) → Prop) (R : It → Hp → Prop), Rep hs hid own H σ ρ → w ρ P → (∀ xs J H', P xs → Ex H H' → ItOkW (Bh hid own H') (Bh hid own H') J xs → R J H') → wi σ H R
def chs (z : Str) : List SV := z.cps.toList.map fun c => .d (.str ⟨#[c]⟩)
/-- what is walked, of a value -/
def itD (x : SV) (P : List SV → Prop) : Prop := match x with
  | .d (.list a) => P (a.map .d)
  | .d (.tuple a) => P (a.map .d)
  | .d (.str a) => P (chs a)
  | _ => False
def wIt (a : WE) : WI := fun ρ P => a ρ fun x => itD x P
section
variable {K : PySem.W.Frag} {B0 Bi : Hp} {a : Addr} {vs : List V} {ds : List PyData}
theorem it_list (h : B0 a = some (.lst vs)) (t : DdAll Bi vs ds) : ItOk B0 Bi (Itl K a) (ds.map .d) := by
  refine ⟨fun i s H' e hs => ?_, fun H' e => ⟨vs, SqL.of (e _ _ h), by rw [List.length_map, t.len]; exact Nat.le_refl _⟩⟩
  rw [List.getElem?_map] at hs
  cases q : ds[i]? with
  | none => rw [q] at hs; cases hs
  | some d =>
    rw [q] at hs
    cases hs
    obtain ⟨v, hv, dv⟩ := t.getD q
    refine ⟨⟨vs, v, SqL.of (e _ _ h), hv⟩, ?_⟩
    rintro v' H'' ⟨rfl, hy⟩
    have := hy vs (SqL.of (e _ _ h))
    rw [hv] at this
    cases this
    exact ⟨rfl, dv⟩
theorem it_tup (h : Ti B0 a vs) (t : DdAll Bi vs ds) : ItOk B0 Bi (Itt K a) (ds.map .d) := by
  refine ⟨fun i s H' e hs => ?_, fun H' e => ⟨vs, (h.ex e).sq, by rw [List.length_map, t.len]; exact Nat.le_refl _⟩⟩
  rw [List.getElem?_map] at hs
  cases q : ds[i]? with
  | none => rw [q] at hs; cases hs
  | some d =>
    rw [q] at hs
    cases hs
    obtain ⟨v, hv, dv⟩ := t.getD q
    refine ⟨⟨vs, v, (h.ex e).sq, hv⟩, ?_⟩
    rintro v' H'' ⟨rfl, hy⟩
    have := hy vs (h.ex e).sq
    rw [hv] at this
    cases this
    exact ⟨rfl, dv⟩
theorem it_str (z : Str) : ItOk B0 Bi (Its z) (chs z) := by
  unfold chs
  refine ⟨fun i s H' e hs => ?_, fun H' e => ?_⟩
  · rw [List.getElem?_map] at hs
    cases q : z.cps.toList[i]? with
    | none => rw [q] at hs; cases hs
    | some c =>
      rw [q] at hs
      cases hs
      rw [Array.getElem?_toList] at q
      have lt := (Array.getElem?_eq_some_iff.mp q).1
      refine ⟨lt, ?_⟩
      rintro v' H'' ⟨rfl, c', hc, rfl⟩
      rw [q] at hc
      cases hc
      exact ⟨rfl, .str _⟩
  · show z.cps.size ≤ _
    simp
end
instance li_any {K : PySem.W.Frag} {t : TE} {a : WE} [h : LE t a] : LI (iAny K t) (wIt a) := ⟨fun hs hid own H σ ρ P R r hw k => by
  refine h.go hs hid own H σ ρ _ _ r hw fun s v H' p e q => ?_
  unfold itD at p
  split at p
  · cases q with
    | lst h t => exact .inl ⟨_, rfl, ⟨_, SqL.of (hide_ex _ _ h)⟩, k _ _ H' p e (it_list h t)⟩
  · cases q with
    | tup h t => exact .inr (.inl ⟨_, rfl, ⟨_, (h.ex hide_ex).sq⟩, k _ _ H' p e (it_tup h t)⟩)
  · cases q
    exact .inr (.inr ⟨_, rfl, k _ _ H' p e (it_str _)⟩)
  · exact p.elim⟩
instance lib_any {K : PySem.W.Frag} {t : TE} {a : WE} [h : LB t a] : LIB (iAny K t) (wIt a) := ⟨fun hs hid own H σ ρ P R r hw k => by
  refine h.go hs hid own H σ ρ _ _ r hw fun s v H' p e q => ?_
  unfold itD at p
  split at p
  · obtain ⟨a, vs, rfl, h, t⟩ := q.list
    exact .inl ⟨_, rfl, ⟨_, SqL.of h⟩, k _ _ H' p e (it_list h t)⟩
  · obtain ⟨a, vs, rfl, h, t⟩ := q.tuple
    exact .inr (.inl ⟨_, rfl, ⟨_, (h.ex hide_ex).sq⟩, k _ _ H' p e (it_tup (h.ex hide_ex) t)⟩)
  · rw [q.str]
    exact .inr (.inr ⟨_, rfl, k _ _ H' p e (it_str _)⟩)
  · exact p.elim⟩
def rgD (lo : Int) (n : Nat) : List SV := (List.range n).map fun (i : Nat) => .d (.int (lo + (i : Int)))
theorem it_rng {B0 Bi : Hp} (lo : Int) (n : Nat) : ItOk B0 Bi (Itr lo n) (rgD lo n) := by
  unfold rgD
  refine ⟨fun i s H' e hs => ?_, fun H' e => ?_⟩
  · rw [List.getElem?_map] at hs
    cases q : (List.range n)[i]? with
    | none => rw [q] at hs; cases hs
    | some c =>
      have lt := (List.getElem?_eq_some_iff.mp q).1
      rw [List.length_range] at lt
      rw [List.getElem?_range lt] at q
      cases q
      rw [List.getElem?_range lt] at hs
      cases hs
      refine ⟨lt, ?_⟩
      rintro v' H'' ⟨rfl, rfl⟩
      exact ⟨rfl, .int _⟩
  · show n ≤ _
    simp
def wRng (a : WA) : WI := fun ρ P => a ρ fun ss => match ss with
  | [.d (.int j)] => -1000000 ≤ j ∧ j ≤ 1000000 ∧ P (rgD 0 j.toNat)
  | [.d (.int i), .d (.int j)] => -1000000 ≤ i ∧ i ≤ 1000000 ∧ -1000000 ≤ j ∧ j ≤ 1000000 ∧ P (rgD i (j - i).toNat)
  | _ => False
theorem rb_int {hid own H v j} (h : Rb hid own H v (.d (.int j))) : v = .int j := h.int
theorem li_r1 {t : TA} {a : WA} [h : LAB t a] {hs hid own H σ ρ} {P : List SV → Prop} {R : It → Hp → Prop} (r : Rep hs hid own H σ ρ) (hw : (fun ρ P => a ρ fun ss => match ss with
  | [.d (.int j)] => -1000000 ≤ j ∧ j ≤ 1000000 ∧ P (rgD 0 j.toNat)
  | _ => False) ρ P) (k : ∀ xs J H', P xs → Ex H H' → (∀ B0 Bi, ItOk B0 Bi J xs) → R J H') : iRng1 t σ H R := by
  refine h.go hs hid own H σ ρ _ _ r hw fun ss vs H' p e q => ?_
  split at p
  · obtain ⟨v, rfl, rv⟩ := rb1 q
    rw [rv.int]
    exact ⟨_, rfl, by omega, by omega, k _ _ H' p.2.2 e fun _ _ => it_rng 0 _⟩
  · exact p.elim
theorem li_r2 {t : TA} {a : WA} [h : LAB t a] {hs hid own H σ ρ} {P : List SV → Prop} {R : It → Hp → Prop} (r : Rep hs hid own H σ ρ) (hw : (fun ρ P => a ρ fun ss => match ss with
  | [.d (.int i), .d (.int j)] => -1000000 ≤ i ∧ i ≤ 1000000 ∧ -1000000 ≤ j ∧ j ≤ 1000000 ∧ P (rgD i (j - i).toNat)
  | _ => False) ρ P) (k : ∀ xs J H', P xs → Ex H H' → (∀ B0 Bi, ItOk B0 Bi J xs) → R J H') : iRng2 t σ H R := by
  refine h.go hs hid own H σ ρ _ _ r hw fun ss vs H' p e q => ?_
  split at p
  · obtain ⟨v, v2, rfl, rv, rv2⟩ := rb2 q
    rw [rv.int, rv2.int]
    exact ⟨_, _, rfl, ⟨by omega, by omega, by omega, by omega⟩, k _ _ H' p.2.2.2.2 e fun _ _ => it_rng _ _⟩
  · exact p.elim
def asR1 (ss : List SV) (P : List SV → Prop) : Prop := match ss with
  | [.d (.int j)] => -1000000 ≤ j ∧ j ≤ 1000000 ∧ P (rgD 0 j.toNat)
  | _ => False
def asR2 (ss : List SV) (P : List SV → Prop) : Prop := match ss with
  | [.d (.int i), .d (.int j)] => -1000000 ≤ i ∧ i ≤ 1000000 ∧ -1000000 ≤ j ∧ j ≤ 1000000 ∧ P (rgD i (j - i).toNat)
  | _ => False
def wRng1 (a : WA) : WI := fun ρ P => a ρ fun ss => asR1 ss P
def wRng2 (a : WA) : WI := fun ρ P => a ρ fun ss => asR2 ss P
instance li_rng1 {t : TA} {a : WA} [h : LAB t a] : LI (iRng1 t) (wRng1 a) := ⟨fun hs hid own H σ ρ P R r hw k => li_r1 r hw fun xs J H' p e q => k xs J H' p e (q _ _)⟩
instance lib_rng1 {t : TA} {a : WA} [h : LAB t a] : LIB (iRng1 t) (wRng1 a) := ⟨fun hs hid own H σ ρ P R r hw k => li_r1 r hw fun xs J H' p e q => k xs J H' p e (q _ _)⟩
instance li_rng2 {t : TA} {a : WA} [h : LAB t a] : LI (iRng2 t) (wRng2 a) := ⟨fun hs hid own H σ ρ P R r hw k => li_r2 r hw fun xs J H' p e q => k xs J H' p e (q _ _)⟩
instance lib_rng2 {t : TA} {a : WA} [h : LAB t a] : LIB (iRng2 t) (wRng2 a) := ⟨fun hs hid own H σ ρ P R r hw k => li_r2 r hw fun xs J H' p e q => k xs J H' p e (q _ _)⟩
/-! ### slots -/
theorem wipe_get (σ : L2.St) : ∀ (vs : List Nat) (i : Nat), (wipe σ vs)[i]? = if i ∈ vs then (if i < σ.length then some none else none) else σ[i]?
  | [], i => by simp [wipe]
  | v :: vs, i => by
    unfold wipe
    rw [List.getElem?_set, wipe_get σ vs i, wipe_length]
    by_cases h : v = i
    · subst h
      simp
    · have h2 : i ≠ v := fun z => h z.symm
      simp [h, h2]
theorem wipe_set (σ : L2.St) (vs : List Nat) (j : Nat) (x : Option V) (h : j ∈ vs) : wipe (σ.set j x) vs = wipe σ vs := by
  apply List.ext_getElem?
  intro i
  rw [wipe_get, wipe_get, List.length_set]
  by_cases hi : i ∈ vs
  · rw [if_pos hi, if_pos hi]
  · rw [if_neg hi, if_neg hi, List.getElem?_set]
    have : j ≠ i := fun z => hi (z ▸ h)
    simp [this]
theorem wipe_wipe (σ : L2.St) (vs : List Nat) : wipe (wipe σ vs) vs = wipe σ vs := by
  apply List.ext_getElem?
  intro i
  rw [wipe_get (wipe σ vs), wipe_length, wipe_get]
  by_cases hi : i ∈ vs
  · simp [hi]
  · simp [hi]
def wipeR (ρ : Ro) : List Nat → Ro
  | [] => ρ
  | v :: vs => (wipeR ρ vs).set v none
theorem wipeR_len (ρ : Ro) : ∀ vs : List Nat, (wipeR ρ vs).length = ρ.length
  | [] => rfl
  | v :: vs => by unfold wipeR; rw [List.length_set, wipeR_len ρ vs]
theorem wipeR_some {ρ : Ro} {i : Nat} {x : SV} : ∀ {vs : List Nat}, (wipeR ρ vs)[i]? = some (some x) → ρ[i]? = some (some x) ∧ i ∉ vs
  | [], h => ⟨h, by simp⟩
  | v :: vs, h => by
    unfold wipeR at h
    rw [List.getElem?_set] at h
    by_cases hi : v = i
    · rw [if_pos hi] at h
      split at h <;> cases h
    · rw [if_neg hi] at h
      have q := wipeR_some h
      refine ⟨q.1, ?_⟩
      simp only [List.mem_cons, not_or]
      exact ⟨fun z => hi z.symm, q.2⟩
section
variable {hs : Hp} {hid : Addr → Prop} {own : Ix → Option Addr} {H : Hp} {σ : L2.St} {ρ : Ro} {v : V} {s : SV} {i : Nat}
theorem Rep.wipe (r : Rep hs hid own H σ ρ) (vs : List Nat) : Rep hs hid own H (L2.wipe σ vs) (wipeR ρ vs) := by
  refine ⟨r.ex, r.occ, r.new, r.inj, by rw [wipe_length, wipeR_len]; exact r.len, fun i s h => ?_⟩
  obtain ⟨h1, h2⟩ := wipeR_some h
  obtain ⟨v, h3, h4⟩ := r.get i s h1
  refine ⟨v, ?_, h4⟩
  rw [wipe_get, if_neg h2]
  exact h3
theorem sat_of (q : Re (Bh hid own H) v s) : Sat hid own H i v s := by
  cases s with
  | own xs => exact q.elim
  | own2 a xss => exact q.elim
  | ln k j xs => exact q.elim
  | d x => exact q
  | o m => exact q
  | ty n => exact q
  | ref a => exact q
theorem Rep.put (r : Rep hs hid own H σ ρ) (i : Nat) (q : Re (Bh hid own H) v s) : Rep hs hid own H (σ.set i (some v)) (ρ.set i (some s)) := by
  refine ⟨r.ex, r.occ, r.new, r.inj, by rw [List.length_set, List.length_set]; exact r.len, fun j s' h => ?_⟩
  rw [List.getElem?_set] at h ⊢
  by_cases hi : i = j
  · subst hi
    rw [if_pos rfl] at h ⊢
    by_cases hl : i < ρ.length
    · rw [if_pos hl] at h
      cases h
      rw [if_pos (by rw [r.len]; exact hl)]
      exact ⟨v, rfl, sat_of q⟩
    · rw [if_neg hl] at h
      cases h
  · rw [if_neg hi] at h ⊢
    exact r.get j s' h
end
/-! ### targets -/
abbrev WG := SV → Ro → (Ro → Prop) → Prop
def SetOnly (js : List Nat) (σ σ' : L2.St) : Prop := ∀ vs : List Nat, (∀ j ∈ js, j ∈ vs) → wipe σ' vs = wipe σ vs
class LG (g : TG) (js : outParam (List Nat)) (w : outParam WG) : Prop where
  go : ∀ hs hid own H σ ρ v s (P : Ro → Prop) (Q : L2.St → Hp → Prop), Rep hs hid own H σ ρ → Re (Bh hid own H) v s → w s ρ P → (∀ σ' ρ', P ρ' → Rep hs hid own H σ' ρ' → SetOnly js σ σ' → Q σ' H) → g v σ H Q
def wName (i : Nat) : WG := fun s ρ P => P (ρ.set i (some s))
instance lg_name {i : Nat} : LG (gName i) [i] (wName i) := ⟨fun hs hid own H σ ρ v s P Q r q hw k => k _ _ hw (r.put i q) fun vs h => wipe_set σ vs i _ (h i (by simp))⟩
abbrev WGs := List PyData → Ro → (Ro → Prop) → Prop
class LGs (g : TGs) (js : outParam (List Nat)) (w : outParam WGs) : Prop where
  go : ∀ hs hid own H σ ρ vs ds (P : Ro → Prop) (Q : L2.St → Hp → Prop), Rep hs hid own H σ ρ → DdAll (Bh hid own H) vs ds → w ds ρ P → (∀ σ' ρ', P ρ' → Rep hs hid own H σ' ρ' → SetOnly js σ σ' → Q σ' H) → g vs σ H Q
def wgNil : WGs := fun ds ρ P => ds = [] ∧ P ρ
def wgCons (a : WG) (b : WGs) : WGs := fun ds ρ P => match ds with
  | x :: r => a (.d x) ρ fun ρ' => b r ρ' P
  | [] => False
instance lgs_nil : LGs gNil [] wgNil := ⟨fun hs hid own H σ ρ vs ds P Q r q hw k => by
  obtain ⟨rfl, hw⟩ := hw
  cases q
  exact ⟨rfl, k _ _ hw r fun _ _ => rfl⟩⟩
instance lgs_cons {g : TG} {gs : TGs} {js ks : List Nat} {a : WG} {b : WGs} [ha : LG g js a] [hb : LGs gs ks b] : LGs (gCons g gs) (js ++ ks) (wgCons a b) := ⟨fun hs hid own H σ ρ vs ds P Q r q hw k => by
  cases q with
  | nil => exact hw.elim
  | cons x t =>
    refine ⟨_, _, rfl, ha.go hs hid own H σ ρ _ _ _ _ r (show Re _ _ (.d _) from x) hw fun σ1 ρ1 p1 r1 o1 => ?_⟩
    exact hb.go hs hid own H σ1 ρ1 _ _ _ _ r1 t p1 fun σ2 ρ2 p2 r2 o2 => k σ2 ρ2 p2 r2 fun vs h => (o2 vs fun j hj => h j (List.mem_append_right _ hj)).trans (o1 vs fun j hj => h j (List.mem_append_left _ hj))⟩
def wgTup (n : Nat) (b : WGs) : WG := fun s ρ P => match s with
  | .d (.tuple ds) => ds.length = n ∧ b ds ρ P
  | _ => False
instance lg_tup {K : PySem.W.Frag} {n : Nat} {g : TGs} {js : List Nat} {b : WGs} [hb : LGs g js b] : LG (gTup K n g) js (wgTup n b) := ⟨fun hs hid own H σ ρ v s P Q r q hw k => by
  unfold wgTup at hw
  split at hw
  · cases q with
    | tup h t => exact ⟨_, _, rfl, (h.ex hide_ex).sq, by rw [t.len]; exact hw.1, hb.go hs hid own H σ ρ _ _ P Q r t hw.2 k⟩
  · exact hw.elim⟩
class InL (j : Nat) (vs : List Nat) : Prop where
  out : j ∈ vs
instance inl_hd {j : Nat} {vs : List Nat} : InL j (j :: vs) := ⟨by simp⟩
instance (priority := 100) inl_tl {j v : Nat} {vs : List Nat} [h : InL j vs] : InL j (v :: vs) := ⟨List.mem_cons_of_mem _ h.out⟩
class SubL (js vs : List Nat) : Prop where
  out : ∀ j ∈ js, j ∈ vs
instance subl_nil {vs : List Nat} : SubL [] vs := ⟨fun j h => by cases h⟩
instance subl_cons {j : Nat} {js vs : List Nat} [a : InL j vs] [b : SubL js vs] : SubL (j :: js) vs := ⟨fun k h => by
  rcases List.mem_cons.mp h with rfl | h
  · exact a.out
  · exact b.out k h⟩
instance subl_app {is js vs : List Nat} [a : SubL is vs] [b : SubL js vs] : SubL (is ++ js) vs := ⟨fun k h => by
  rcases List.mem_append.mp h with h | h
  · exact a.out k h
  · exact b.out k h⟩
/-! ### comprehensions -/
theorem lcQ {X : Cx} {e : Expr} {us vs : List Nat} {wi : TI} {g : TG} {tt : TT} {te : TE} (h : us = vs) (p : PE X e (tLc wi g tt te us)) : PE X e (tLc wi g tt te vs) := h ▸ p
theorem lcS {X : Cx} {st : Stmt} {i : Nat} {us vs : List Nat} {wi : TI} {g : TG} {tt : TT} {te : TE} (h : us = vs) (p : PS X st (tAsg (tLc wi g tt te us) (gName i))) : PS X st (tAsg (tLc wi g tt te vs) (gName i)) := h ▸ p
/-- the items one after another -/
def wComp (g : WG) (c : WT) (e : WE) (ρ : Ro) : List SV → (List PyData → Prop) → Prop
  | [], P => P []
  | x :: r, P => g x ρ fun ρ' => c ρ' fun b => if b = true then e ρ' (fun y => asDs [y] fun d => wComp g c e ρ r fun ys => P (d ++ ys)) else wComp g c e ρ r P
def wLc (i : WI) (g : WG) (c : WT) (e : WE) (vs : List Nat) : WE := fun ρ P => i ρ fun xs => xs.length ≤ 100000 ∧ wComp g c e (wipeR ρ vs) xs fun ys => P (.d (.list ys))
theorem oo_or {hid : Addr → Prop} {own : Ix → Option Addr} {D : Addr} : ∀ a, Oo hid own a → Oo (fun a => hid a ∨ a = D) own a := fun a h => by
  rcases h with h | h
  · exact .inl (.inl h)
  · exact .inr h
instance le_lc {wi : TI} {g : TG} {tt : TT} {te : TE} {vs js : List Nat} {i : WI} {wg : WG} {c : WT} {e : WE} [hi : LIB wi i] [hg : LG g js wg] [hc : LT tt c] [he : LE te e] [hv : SubL js vs] : LE (tLc wi g tt te vs) (wLc i wg c e vs) := ⟨fun hs hid own H σ ρ P Q r hw k => by
  refine hi.go hs hid own H σ ρ _ _ r hw fun xs J H1 p e1 hJ D hD => ?_
  obtain ⟨hlen, p⟩ := p
  have r1 := (r.mono e1).wipe vs
  have nD : ¬ Oo hid own D := r1.notO hD
  -- the new list is hidden while it grows
  let hid' : Addr → Prop := fun a => hid a ∨ a = D
  have ownD : ∀ j a, own j = some a → a ≠ D := fun j a h z => nD (.inr ⟨j, by rw [h, z]⟩)
  let Pd : List PyData → Prop := fun ys => P (.d (.list ys))
  refine ⟨fun n m H' => ∃ acc ys, m = xs.length - n ∧ n ≤ xs.length ∧ Ex H1 H' ∧ H' D = some (.lst acc) ∧ acc.length ≤ n ∧ DdAll (Bh hid' own H') acc ys ∧ wComp wg c e (wipeR ρ vs) (xs.drop n) (fun zs => Pd (ys ++ zs)), ⟨xs.length, [], [], rfl, Nat.zero_le _, Evl.Ex.new hD, upd_same, Nat.le_refl _, .nil, by simpa using p⟩, ?_⟩
  rintro n m H' ⟨acc, ys, rfl, hn, e2, hacc, hal, hys, hp⟩
  have hBD : ∀ {G : Hp}, Ex (Bh hid' own G) (Bh hid own G) := hide_le oo_or
  by_cases hlt : n < xs.length
  · have hx : xs[n]? = some xs[n] := List.getElem?_eq_getElem hlt
    have hdrop : xs.drop n = xs[n] :: xs.drop (n + 1) := (List.drop_eq_getElem_cons hlt)
    rw [hdrop] at hp
    obtain ⟨hgo, hyld⟩ := hJ.step n _ H' e2 hx
    refine .inr ⟨hgo, fun G => ∃ acc ys, Ex H1 G ∧ G D = some (.lst acc) ∧ acc.length ≤ n + 1 ∧ DdAll (Bh hid' own G) acc ys ∧ wComp wg c e (wipeR ρ vs) (xs.drop (n + 1)) (fun zs => Pd (ys ++ zs)), ?_, ?_⟩
    · rintro G ⟨acc, ys, a1, a2, a3, a4, a5⟩
      exact ⟨xs.length - (n + 1), by omega, acc, ys, rfl, hlt, a1, a2, a3, a4, a5⟩
    · intro x H'' hy
      obtain ⟨rfl, hxs⟩ := hyld x H'' hy
      -- the state, with the new list hidden
      have rp : Rep hs hid' own H'' (wipe σ vs) (wipeR ρ vs) := by
        have r2 := r1.mono e2
        have hB : Ex (Bh hid own H1) (Bh hid' own H'') := fun a o h => by
          obtain ⟨h1, h2⟩ := hide_some h
          refine (hide_of (fun z => ?_)).trans (e2 _ _ h2)
          rcases z with (z | rfl) | z
          · exact h1 (.inl z)
          · rw [hD] at h2; cases h2
          · exact h1 (.inr z)
        refine ⟨r2.ex, fun a h => ?_, fun j a h => ⟨(r2.new j a h).1, ?_⟩, r2.inj, r2.len, fun j s h => ?_⟩
        · rcases h with (h | rfl) | h
          · exact r2.occ a (.inl h)
          · rw [hacc]; exact fun z => nomatch z
          · exact r2.occ a (.inr h)
        · rintro (z | z)
          · exact (r2.new j a h).2 z
          · exact ownD j a h z
        · obtain ⟨v, h1, h2⟩ := r1.get j s h
          refine ⟨v, h1, ?_⟩
          exact h2.lift (fun x a _ ha => r1.keeps e2 x a ha) hB
      have hxs' : Re (Bh hid' own H'') x xs[n] := by
        refine hxs.mono fun a o h => ?_
        obtain ⟨h1, h2⟩ := hide_some h
        refine (hide_of (fun z => ?_)).trans (e2 _ _ h2)
        rcases z with (z | rfl) | z
        · exact h1 (.inl z)
        · rw [hD] at h2; cases h2
        · exact h1 (.inr z)
      refine hg.go hs hid' own H'' _ _ _ _ _ _ rp hxs' hp fun σ2 ρ2 p2 r2 o2 => ⟨(o2 vs hv.out).trans (wipe_wipe σ vs), ?_⟩
      refine hc.go hs hid' own H'' σ2 ρ2 _ _ r2 p2 fun b H3 p3 e3 => ?_
      have r3 := r2.mono e3
      cases b with
      | false =>
        refine iteF ⟨acc, ys, e2.trans e3, e3 _ _ hacc, by omega, hys.mono (hide_mono e3), by simpa using p3⟩
      | true =>
        refine iteT (he.go hs hid' own H3 σ2 ρ2 _ _ r3 (by simpa using p3) fun s y H4 p4 e4 q4 => ?_)
        have e34 := e3.trans e4
        have hacc4 := e34 _ _ hacc
        unfold asDs at p4
        split at p4
        · rename_i ds hds
          have hd1 : DdAll (Bh hid' own H4) [y] ds := ReAll.dd (.cons q4 .nil) hds
          have hup : Ex (Bh hid' own H4) (Bh hid' own (upd H4 D (.lst (acc ++ [y])))) := hide_upd (.inl (.inr rfl))
          refine ⟨acc, hacc4, Evl.sz_lt (by omega), acc ++ [y], ys ++ ds, ?_, upd_same, by simp; omega, ((hys.mono (hide_mono e34)).app hd1).mono hup, ?_⟩
          · exact Evl.Ex.mut (e2.trans e34) hD
          · simpa using p4
        · exact p4.elim
  · have hn2 : n = xs.length := by omega
    subst hn2
    rw [List.drop_of_length_le (Nat.le_refl _)] at hp
    have hp2 : Pd ys := by simpa [wComp] using hp
    refine .inl ⟨hJ.stop H' e2, k _ _ H' hp2 (e1.trans e2) (.lst ((hide_of (fun z => nD z)).trans hacc) (hys.mono hBD))⟩⟩
end Lr

namespace Lr
open PySem L2 PySem.Spec PyProof.Rows
/-! ### statements -/
structure PEnds where
  nx : Ro → Prop
  rt : SV → Prop
  bk : Ro → Prop := fun _ => False
  ct : Ro → Prop := fun _ => False
structure EOk (hs : Hp) (hid : Addr → Prop) (D : Ends) (E : PEnds) : Prop where
  nx : ∀ own H σ ρ, E.nx ρ → Rep hs hid own H σ ρ → D.nx σ H
  bk : ∀ own H σ ρ, E.bk ρ → Rep hs hid own H σ ρ → D.bk σ H
  ct : ∀ own H σ ρ, E.ct ρ → Rep hs hid own H σ ρ → D.ct σ H
  rt : ∀ s v H, E.rt s → Ex hs H → Re (hide hid H) v s → D.rt v H
abbrev WS := PEnds → Ro → Prop
class LS (t : TS) (w : outParam WS) : Prop where
  go : ∀ hs hid D E own H σ ρ, EOk hs hid D E → Rep hs hid own H σ ρ → w E ρ → t D σ H
theorem oo_le {hid : Addr → Prop} {own : Ix → Option Addr} : ∀ a, hid a → Oo hid own a := fun _ h => .inl h
def wNext : WS := fun E ρ => E.nx ρ
def wSeq (t u : WS) : WS := fun E ρ => t { E with nx := u E } ρ
instance ls_next : LS tNext wNext := ⟨fun hs hid D E own H σ ρ k r hw => k.nx own H σ ρ hw r⟩
instance ls_seq {t u : TS} {a b : WS} [ha : LS t a] [hb : LS u b] : LS (tSeq t u) (wSeq a b) := ⟨fun hs hid D E own H σ ρ k r hw =>
  ha.go hs hid { D with nx := u D } { E with nx := b E } own H σ ρ ⟨fun own H σ ρ p r => hb.go hs hid D E own H σ ρ k r p, k.bk, k.ct, k.rt⟩ r hw⟩
def wBreak : WS := fun E ρ => E.bk ρ
def wCont : WS := fun E ρ => E.ct ρ
instance ls_break : LS tBreak wBreak := ⟨fun hs hid D E own H σ ρ k r hw => k.bk own H σ ρ hw r⟩
instance ls_cont : LS tCont wCont := ⟨fun hs hid D E own H σ ρ k r hw => k.ct own H σ ρ hw r⟩
def wDrop (e : WE) : WS := fun E ρ => e ρ fun _ => E.nx ρ
instance ls_drop {t : TE} {e : WE} [he : LE t e] : LS (tDrop t) (wDrop e) := ⟨fun hs hid D E own H σ ρ k r hw => he.go hs hid own H σ ρ _ _ r hw fun s v H' p e q => k.nx own H' σ ρ p (r.mono e)⟩
/-- what a def gives back -/
theorem rb_ret {hs : Hp} {hid : Addr → Prop} {own : Ix → Option Addr} {H : Hp} {σ : L2.St} {ρ : Ro} {v : V} {s : SV} (r : Rep hs hid own H σ ρ) (h : Rb hid own H v s) : Re (hide hid H) v s := by
  rcases h with h | ⟨ds, i, rfl, a, vs, h1, rfl, h3, h4⟩
  · exact h.mono (hide_le oo_le)
  · exact .lst ((hide_of (r.new i a h1).2).trans h3) (h4.mono (hide_le oo_le))
def wRet (e : WE) : WS := fun E ρ => e ρ E.rt
def wRetN : WS := fun E ρ => E.rt (.d .none)
instance ls_ret {t : TE} {e : WE} [he : LB t e] : LS (tRet t) (wRet e) := ⟨fun hs hid D E own H σ ρ k r hw => he.go hs hid own H σ ρ _ _ r hw fun s v H' p e q => k.rt s v H' p (r.ex.trans e) (rb_ret (r.mono e) q)⟩
instance ls_retN : LS tRetN wRetN := ⟨fun hs hid D E own H σ ρ k r hw => k.rt (.d .none) _ H hw r.ex .non⟩
def wIfS (c : WT) (t u : WS) : WS := fun E ρ => c ρ fun b => if b = true then t E ρ else u E ρ
instance ls_if {c : TT} {t u : TS} {wc : WT} {a b : WS} [hc : LT c wc] [ha : LS t a] [hb : LS u b] : LS (tIfS c t u) (wIfS wc a b) := ⟨fun hs hid D E own H σ ρ k r hw => by
  refine hc.go hs hid own H σ ρ _ _ r hw fun c H' p e => ?_
  cases c with
  | true => exact iteT (ha.go hs hid D E own H' σ ρ k (r.mono e) (by simpa using p))
  | false => exact iteF (hb.go hs hid D E own H' σ ρ k (r.mono e) (by simpa using p))⟩
def wNever : WS := fun _ _ => False
instance ls_never : LS tNever wNever := ⟨fun hs hid D E own H σ ρ k r hw => hw.elim⟩
def wAsg (e : WE) (g : WG) : WS := fun E ρ => e ρ fun s => g s ρ E.nx
instance ls_asg {t : TE} {g : TG} {js : List Nat} {e : WE} {wg : WG} [he : LE t e] [hg : LG g js wg] : LS (tAsg t g) (wAsg e wg) := ⟨fun hs hid D E own H σ ρ k r hw => by
  refine he.go hs hid own H σ ρ _ _ r hw fun s v H' p e q => ?_
  exact hg.go hs hid own H' σ ρ v s _ _ (r.mono e) q p fun σ' ρ' p' r' _ => k.nx own H' σ' ρ' p' r'⟩
def as2 (ss : List SV) (P : SV → SV → Prop) : Prop := match ss with
  | [a, b] => P a b
  | _ => False
def as3 (ss : List SV) (P : SV → SV → SV → Prop) : Prop := match ss with
  | [a, b, c] => P a b c
  | _ => False
def wPar (i j : Nat) (a : WA) : WS := fun E ρ => a ρ fun ss => as2 ss fun x y => E.nx ((ρ.set i (some x)).set j (some y))
def wPar3 (i j l : Nat) (a : WA) : WS := fun E ρ => a ρ fun ss => as3 ss fun x y z => E.nx (((ρ.set i (some x)).set j (some y)).set l (some z))
instance ls_par {i j : Nat} {t : TA} {a : WA} [ha : LA t a] : LS (tPar i j t) (wPar i j a) := ⟨fun hs hid D E own H σ ρ k r hw => by
  refine ha.go hs hid own H σ ρ _ _ r hw fun ss vs H' p e q => ?_
  unfold as2 at p
  split at p
  · cases q with
    | cons q1 q =>
      cases q with
      | cons q2 q =>
        cases q
        exact ⟨_, _, rfl, k.nx own H' _ _ p (((r.mono e).put i q1).put j q2)⟩
  · exact p.elim⟩
instance ls_par3 {i j l : Nat} {t : TA} {a : WA} [ha : LA t a] : LS (tPar3 i j l t) (wPar3 i j l a) := ⟨fun hs hid D E own H σ ρ k r hw => by
  refine ha.go hs hid own H σ ρ _ _ r hw fun ss vs H' p e q => ?_
  unfold as3 at p
  split at p
  · cases q with
    | cons q1 q =>
      cases q with
      | cons q2 q =>
        cases q with
        | cons q3 q =>
          cases q
          exact ⟨_, _, _, rfl, k.nx own H' _ _ p ((((r.mono e).put i q1).put j q2).put l q3)⟩
  · exact p.elim⟩
/-- x += e of ints -/
def wAug (i : Nat) (f : Int → Int → Int) (e : WE) : WS := fun E ρ => gv ρ[i]? fun x => asI x fun a => e ρ fun y => asI y fun b => E.nx (ρ.set i (some (.d (.int (f a b)))))
theorem gv_get {hs : Hp} {hid : Addr → Prop} {own : Ix → Option Addr} {H : Hp} {σ : L2.St} {ρ : Ro} {i : Nat} {P : SV → Prop} (r : Rep hs hid own H σ ρ) (h : gv ρ[i]? P) : ∃ s v, P s ∧ σ[i]? = some (some v) ∧ Re (Bh hid own H) v s := by
  unfold gv at h
  split at h
  all_goals first
    | exact h.elim
    | (rename_i x e
       obtain ⟨v, h1, h2⟩ := r.get i _ e
       exact ⟨_, v, h, h1, h2⟩)
instance ls_aug {i : Nat} {t : TE} {f : Int → Int → Int} {e : WE} [he : LE t e] : LS (tAug i t (ipI f)) (wAug i f e) := ⟨fun hs hid D E own H σ ρ k r hw => by
  obtain ⟨s, v, p, h1, h2⟩ := gv_get r hw
  unfold asI at p
  split at p
  · cases h2
    refine ⟨_, h1, he.go hs hid own H σ ρ _ _ r p fun s y H1 p1 e1 q1 => ?_⟩
    unfold asI at p1
    split at p1
    · cases q1
      exact ⟨_, _, rfl, rfl, k.nx own H1 _ _ p1 ((r.mono e1).put i (s := .d (.int _)) (.int _))⟩
    · exact p1.elim
  · exact p.elim⟩
/-! ### lists of one's own -/
def gown (o : Option (Option SV)) (P : List PyData → Prop) : Prop := match o with
  | some (some (.own ds)) => P ds
  | _ => False
theorem gown_get {hs : Hp} {hid : Addr → Prop} {own : Ix → Option Addr} {H : Hp} {σ : L2.St} {ρ : Ro} {i : Nat} {P : List PyData → Prop} (r : Rep hs hid own H σ ρ) (h : gown ρ[i]? P) : ∃ ds a vs, P ds ∧ ρ[i]? = some (some (.own ds)) ∧ own (.s i) = some a ∧ σ[i]? = some (some (.ref a)) ∧ H a = some (.lst vs) ∧ DdAll (Bh hid own H) vs ds := by
  unfold gown at h
  split at h
  · rename_i ds e
    obtain ⟨v, h1, a, vs, h2, rfl, h3, h4⟩ := r.get i _ e
    exact ⟨ds, a, vs, h, e, h2, h1, h3, h4⟩
  · exact h.elim
theorem Rep.mut {hs : Hp} {hid : Addr → Prop} {own : Ix → Option Addr} {H : Hp} {σ : L2.St} {ρ : Ro} {i : Nat} {a : Addr} {vs : List V} {ds : List PyData} (r : Rep hs hid own H σ ρ) (ha : own (.s i) = some a) (hv : σ[i]? = some (some (.ref a))) (t : DdAll (Bh hid own H) vs ds) :
    Rep hs hid own (upd H a (.lst vs)) σ (ρ.set i (some (.own ds))) := by
  have hO : Oo hid own a := .inr ⟨.s i, ha⟩
  have hB : Ex (Bh hid own H) (Bh hid own (upd H a (.lst vs))) := hide_upd hO
  refine ⟨Evl.Ex.mut r.ex (r.new (.s i) a ha).1, fun b h => ?_, r.new, r.inj, by rw [List.length_set]; exact r.len, fun j s h => ?_⟩
  · by_cases e : b = a
    · rw [e, upd_same]; exact fun z => nomatch z
    · rw [upd_ne e]; exact r.occ b h
  · rw [List.getElem?_set] at h
    by_cases hi : i = j
    · subst hi
      rw [if_pos rfl] at h
      by_cases hl : i < ρ.length
      · rw [if_pos hl] at h
        cases h
        exact ⟨_, hv, a, vs, ha, rfl, upd_same, t.mono hB⟩
      · rw [if_neg hl] at h
        cases h
    · rw [if_neg hi] at h
      obtain ⟨v, h1, h2⟩ := r.get j s h
      refine ⟨v, h1, ?_⟩
      refine h2.lift (fun x b hx hb => ⟨hb, upd_ne fun z => ?_⟩) hB
      have e : x = .s i := r.inj _ _ a (by rw [← z]; exact hb) ha
      rcases hx with hx | ⟨k, l, hx⟩
      · rw [hx] at e; exact hi (Ix.s.inj e).symm
      · rw [hx] at e; cases e
/-- a list that is new -/
class LF (t : TE) (w : outParam (Ro → (List PyData → Prop) → Prop)) : Prop where
  go : ∀ hs hid own H σ ρ (P : List PyData → Prop) (Q : VK), Rep hs hid own H σ ρ → w ρ P → (∀ ds a vs H', P ds → Ex H H' → H a = none → H' a = some (.lst vs) → DdAll (hide (fun b => Oo hid own b ∨ b = a) H') vs ds → Q (.ref a) H') → t σ H Q
def setO (own : Ix → Option Addr) (i : Ix) (a : Addr) : Ix → Option Addr := fun j => if j = i then some a else own j
theorem oo_set {hid : Addr → Prop} {own : Ix → Option Addr} {i : Ix} {a : Addr} : ∀ b, Oo hid (setO own i a) b → Oo hid own b ∨ b = a := fun b h => by
  rcases h with h | ⟨j, h⟩
  · exact .inl (.inl h)
  · unfold setO at h
    by_cases hj : j = i
    · simp only [hj, if_true] at h
      exact .inr (Option.some.inj h).symm
    · simp only [hj, if_false] at h
      exact .inl (.inr ⟨j, h⟩)
theorem Rep.own_new {hs : Hp} {hid : Addr → Prop} {own : Ix → Option Addr} {H H' : Hp} {σ : L2.St} {ρ : Ro} {a : Addr} {vs : List V} {ds : List PyData} (i : Nat) (r : Rep hs hid own H σ ρ) (e : Ex H H') (hn : H a = none) (ha : H' a = some (.lst vs)) (t : DdAll (hide (fun b => Oo hid own b ∨ b = a) H') vs ds) :
    Rep hs hid (setO own (.s i) a) H' (σ.set i (some (.ref a))) (ρ.set i (some (.own ds))) := by
  have nO : ¬ Oo hid own a := r.notO hn
  have sub : ∀ b, Oo hid (setO own (.s i) a) b → Oo hid own b ∨ b = a := oo_set
  have hB : Ex (Bh hid own H) (Bh hid (setO own (.s i) a) H') := fun b o h => by
    obtain ⟨h1, h2⟩ := hide_some h
    refine (hide_of (fun z => ?_)).trans (e _ _ h2)
    rcases sub b z with z | rfl
    · exact h1 z
    · rw [hn] at h2; cases h2
  refine ⟨r.ex.trans e, fun b h => ?_, fun j b h => ?_, fun j k b h1 h2 => ?_, by rw [List.length_set, List.length_set]; exact r.len, fun j s h => ?_⟩
  · rcases sub b h with z | rfl
    · exact ne_none_mono e (r.occ b z)
    · rw [ha]; exact fun z => nomatch z
  · unfold setO at h
    by_cases hj : j = .s i
    · simp only [hj, if_true] at h
      cases h
      exact ⟨Evl.fresh_back r.ex hn, fun z => nO (.inl z)⟩
    · simp only [hj, if_false] at h
      exact r.new j b h
  · unfold setO at h1 h2
    by_cases hj : j = .s i
    · by_cases hk : k = .s i
      · rw [hj, hk]
      · simp only [hj, hk, if_true, if_false] at h1 h2
        cases h1
        exact absurd (Or.inr ⟨k, h2⟩) nO
    · by_cases hk : k = .s i
      · simp only [hj, hk, if_true, if_false] at h1 h2
        cases h2
        exact absurd (Or.inr ⟨j, h1⟩) nO
      · simp only [hj, hk, if_false] at h1 h2
        exact r.inj j k b h1 h2
  · rw [List.getElem?_set] at h ⊢
    by_cases hi : i = j
    · subst hi
      rw [if_pos rfl] at h ⊢
      by_cases hl : i < ρ.length
      · rw [if_pos hl] at h
        cases h
        rw [if_pos (by rw [r.len]; exact hl)]
        exact ⟨_, rfl, a, vs, by simp [setO], rfl, ha, t.mono (hide_le sub)⟩
      · rw [if_neg hl] at h
        cases h
    · rw [if_neg hi] at h ⊢
      obtain ⟨v, h1, h2⟩ := r.get j s h
      refine ⟨v, h1, ?_⟩
      have hj : ¬ j = i := fun z => hi z.symm
      refine h2.lift (fun x b hx hb => ?_) hB
      have nx : ¬ x = .s i := fun z => by
        rcases hx with hx | ⟨k, l, hx⟩
        · rw [hx] at z; exact hj (Ix.s.inj z)
        · rw [hx] at z; cases z
      exact ⟨by simp only [setO, nx, if_false]; exact hb, (r.keeps e x b hb).2⟩
def tOwn (i : Nat) (t : TE) : TS := tAsg t (gName i)
def wOwn (i : Nat) (w : Ro → (List PyData → Prop) → Prop) : WS := fun E ρ => w ρ fun ds => E.nx (ρ.set i (some (.own ds)))
instance ls_own {i : Nat} {t : TE} {w : Ro → (List PyData → Prop) → Prop} [h : LF t w] : LS (tOwn i t) (wOwn i w) := ⟨fun hs hid D E own H σ ρ k r hw => by
  refine h.go hs hid own H σ ρ _ _ r hw fun ds a vs H' p e hn ha t => ?_
  exact k.nx _ H' _ _ p (r.own_new i e hn ha t)⟩
theorem hide_new2 {O : Addr → Prop} {H : Hp} {a : Addr} {o : HO} (hn : H a = none) : Ex (hide O H) (hide (fun b => O b ∨ b = a) (upd H a o)) := fun b u h => by
  obtain ⟨h1, h2⟩ := hide_some h
  have ne : b ≠ a := fun z => by rw [z, hn] at h2; cases h2
  exact (hide_of (fun z => z.elim h1 ne)).trans ((upd_ne ne).trans h2)
def wfLst (a : WA) : Ro → (List PyData → Prop) → Prop := fun ρ P => a ρ fun ss => asDs ss fun ds => ds.length ≤ 100000 ∧ P ds
instance lf_lst {t : TA} {a : WA} [ha : LA t a] : LF (tLst t) (wfLst a) := ⟨fun hs hid own H σ ρ P Q r hw k => by
  refine ha.go hs hid own H σ ρ _ _ r hw fun ss vs H1 p e1 q => ?_
  unfold asDs at p
  split at p
  · rename_i ds hd
    have t := q.dd hd
    exact ⟨by rw [t.len]; exact Evl.sz_of p.1, fun b hb => k _ _ _ _ p.2 (e1.trans (Evl.Ex.new hb)) (Evl.fresh_back e1 hb) upd_same (t.mono (hide_new2 hb))⟩
  · exact p.elim⟩
/-- list(a list or a tuple) -/
def fLstOf (ss : List SV) (P : List PyData → Prop) : Prop := match ss with
  | [.d (.list a)] => P a
  | [.d (.tuple a)] => P a
  | _ => False
def wfLstOf (a : WA) : Ro → (List PyData → Prop) → Prop := fun ρ P => a ρ fun ss => fLstOf ss P
instance lf_listOf {K : PySem.W.Frag} {t : TA} {a : WA} [ha : LAB t a] : LF (tCB (rLstOf K) t) (wfLstOf a) := ⟨fun hs hid own H σ ρ P Q r hw k => by
  refine ha.go hs hid own H σ ρ _ _ r hw fun ss vs H1 p e1 q => ?_
  unfold fLstOf at p
  split at p
  · obtain ⟨v, rfl, rv⟩ := rb1 q
    obtain ⟨b, ws, rfl, h1, t1⟩ := rv.list
    exact ⟨b, ws, rfl, .inl (SqL.of h1), fun c hc => k _ _ _ _ p (e1.trans (Evl.Ex.new hc)) (Evl.fresh_back e1 hc) upd_same (t1.mono (hide_new2 hc))⟩
  · obtain ⟨v, rfl, rv⟩ := rb1 q
    obtain ⟨b, ws, rfl, h1, t1⟩ := rv.tuple
    exact ⟨b, ws, rfl, .inr (h1.ex hide_ex).sq, fun c hc => k _ _ _ _ p (e1.trans (Evl.Ex.new hc)) (Evl.fresh_back e1 hc) upd_same (t1.mono (hide_new2 hc))⟩
  · exact p.elim⟩
/-- any new list is a list -/
def wOfF (w : Ro → (List PyData → Prop) → Prop) : WE := fun ρ P => w ρ fun ds => P (.d (.list ds))
theorem le_ofF {t : TE} {w : Ro → (List PyData → Prop) → Prop} (h : LF t w) : LE t (wOfF w) := ⟨fun hs hid own H σ ρ P Q r hw k => h.go hs hid own H σ ρ _ _ r hw fun ds a vs H' p e hn ha t =>
  k _ _ H' p e (.lst ((hide_of (fun z => r.notO hn z)).trans ha) (t.mono (hide_le fun _ z => .inl z)))⟩
instance le_listOf {K : PySem.W.Frag} {t : TA} {a : WA} [ha : LAB t a] : LE (tCB (rLstOf K) t) (wOfF (wfLstOf a)) := le_ofF inferInstance
/-- tuple(a list) -/
def fTupOf : WC := fun ss P => match ss with
  | [.d (.list a)] => P (.d (.tuple a))
  | [.d (.tuple a)] => P (.d (.tuple a))
  | _ => False
def rTupX (K : PySem.W.Frag) : List V → Hp → VK → Prop := fun xs H Q => rTupF K xs H Q ∨ (∃ a ys, xs = [.ref a] ∧ SqT K H a ys ∧ Q (.ref a) H)
theorem k_tupX {X : Cx} {K : PySem.W.Frag} (hK : X.K = K) : CallR X (.type "tuple") (rTupX K) := by
  intro pins s σ H xs us Q I r h
  rcases h with h | h
  · exact k_tuple_F hK pins s σ H xs us Q I r h
  · subst hK
    exact call_tupleT pins s σ H xs us Q I r h
instance dc_tup {K : PySem.W.Frag} : DC (rTupX K) fTupOf := ⟨fun hid own H vs ss P Q ho q hf k => by
  unfold fTupOf at hf
  split at hf
  · obtain ⟨v, rfl, rv⟩ := rb1 q
    obtain ⟨b, ws, rfl, h1, t1⟩ := rv.list
    refine .inl ⟨b, ws, rfl, SqL.of h1, fun l H' hl e ht => k _ _ H' hf e (.tup ?_ (t1.mono (hide_mono e)))⟩
    obtain ⟨o, ho2, hd⟩ := ht
    exact ⟨o, (hide_of (ho l hl)).trans ho2, hd⟩
  · obtain ⟨v, rfl, rv⟩ := rb1 q
    obtain ⟨b, ws, rfl, h1, t1⟩ := rv.tuple
    exact .inr ⟨b, ws, rfl, (h1.ex hide_ex).sq, k _ _ H hf (Evl.Ex.refl _) (.tup h1 t1)⟩
  · exact hf.elim⟩
/-- xs.append(e) -/
def wApp (i : Nat) (e : WE) : WS := fun E ρ => gown ρ[i]? fun ds => ds.length < 100000 ∧ e ρ fun y => asDs [y] fun d => E.nx (ρ.set i (some (.own (ds ++ d))))
instance (priority := 2000) ls_app {K : PySem.W.Frag} {i : Nat} {t : TE} {e : WE} [he : LE t e] : LS (tDrop (tBM K "list" rAppend (tVar i) (tCons t tNil))) (wApp i e) := ⟨fun hs hid D E own H σ ρ k r hw => by
  obtain ⟨ds0, a, vs, ⟨hlen, hw⟩, hds, h2, h1, h3, h4⟩ := gown_get r hw
  refine ⟨_, h1, .inl ⟨rfl, _, SqL.of h3⟩, he.go hs hid own H σ ρ _ _ r hw fun s y H1 p e1 q => ?_⟩
  unfold asDs at p
  split at p
  · rename_i d hd
    have td : DdAll (Bh hid own H1) [y] d := ReAll.dd (.cons q .nil) hd
    refine ⟨a, vs, y, rfl, rfl, e1 _ _ h3, by rw [h4.len]; exact Evl.sz_lt hlen, ?_⟩
    exact k.nx own _ _ _ p ((r.mono e1).mut h2 h1 ((h4.mono (hide_mono e1)).app td))
  · exact p.elim⟩
/-- from here on no longer one's own -/
def tRel (i : Nat) (t : TS) : TS := t
theorem pss_rel {X : Cx} {st : List Stmt} {t : TS} (i : Nat) (h : PSs X st t) : PSs X st (tRel i t) := h
def wRel (i : Nat) (w : WS) : WS := fun E ρ => gown ρ[i]? fun ds => w E (ρ.set i (some (.d (.list ds))))
theorem Rep.rel {hs : Hp} {hid : Addr → Prop} {own : Ix → Option Addr} {H : Hp} {σ : L2.St} {ρ : Ro} {i : Nat} {ds : List PyData} (r : Rep hs hid own H σ ρ) (h : ρ[i]? = some (some (.own ds))) : ∃ own', Rep hs hid own' H σ (ρ.set i (some (.d (.list ds)))) := by
  have sub : ∀ b, Oo hid (fun j => if j = .s i then none else own j) b → Oo hid own b := fun b h => by
    rcases h with h | ⟨j, h⟩
    · exact .inl h
    · by_cases hj : j = .s i
      · simp [hj] at h
      · simp only [hj, if_false] at h
        exact .inr ⟨j, h⟩
  have oj : ∀ j b, (if j = .s i then none else own j) = some b → j ≠ .s i ∧ own j = some b := fun j b h => by
    by_cases hj : j = .s i
    · simp [hj] at h
    · simp only [hj, if_false] at h
      exact ⟨hj, h⟩
  have hB : Ex (Bh hid own H) (Bh hid (fun j => if j = .s i then none else own j) H) := hide_le sub
  refine ⟨fun j => if j = .s i then none else own j, r.ex, fun b h => r.occ b (sub b h), fun j b h => r.new j b (oj j b h).2, fun j k b h1 h2 => r.inj j k b (oj j b h1).2 (oj k b h2).2, by rw [List.length_set]; exact r.len, fun j s h' => ?_⟩
  rw [List.getElem?_set] at h'
  by_cases hi : i = j
  · subst hi
    rw [if_pos rfl] at h'
    by_cases hl : i < ρ.length
    · rw [if_pos hl] at h'
      cases h'
      obtain ⟨v, h1, a, vs, q1, rfl, q3, q4⟩ := r.get i _ h
      refine ⟨_, h1, .lst ((hide_of (fun z => ?_)).trans q3) (q4.mono hB)⟩
      rcases z with z | ⟨j, z⟩
      · exact (r.new (.s i) a q1).2 z
      · exact (oj j a z).1 (r.inj j (.s i) a (oj j a z).2 q1)
    · rw [if_neg hl] at h'
      cases h'
  · rw [if_neg hi] at h'
    obtain ⟨v, h1, h2⟩ := r.get j s h'
    refine ⟨v, h1, ?_⟩
    have hj : ¬ j = i := fun z => hi z.symm
    refine h2.lift (fun x b hx hb => ?_) hB
    have nx : ¬ x = .s i := fun z => by
      rcases hx with hx | ⟨k, l, hx⟩
      · rw [hx] at z; exact hj (Ix.s.inj z)
      · rw [hx] at z; cases z
    exact ⟨by simp only [nx, if_false]; exact hb, rfl⟩
instance ls_rel {i : Nat} {t : TS} {w : WS} [h : LS t w] : LS (tRel i t) (wRel i w) := ⟨fun hs hid D E own H σ ρ k r hw => by
  obtain ⟨ds, a, vs, p, h0, _⟩ := gown_get r hw
  obtain ⟨own', r'⟩ := r.rel h0
  exact h.go hs hid D E own' H σ _ k r' p⟩
/-! ### loops -/
def wFor (g : WG) (b : WS) : List SV → WS
  | [], E, ρ => E.nx ρ
  | x :: r, E, ρ => g x ρ fun ρ' => b { E with nx := wFor g b r E, ct := wFor g b r E, bk := E.nx } ρ'
def wForS (i : WI) (g : WG) (b : WS) : WS := fun E ρ => i ρ fun xs => wFor g b xs E ρ
instance ls_for {wi : TI} {g : TG} {tb : TS} {js : List Nat} {i : WI} {wg : WG} {b : WS} [hi : LI wi i] [hg : LG g js wg] [hb : LS tb b] : LS (tFor wi g tb) (wForS i wg b) := ⟨fun hs hid D E own H σ ρ k r hw => by
  refine hi.go hs hid own H σ ρ _ _ r hw fun xs J H1 p e1 hJ => ?_
  have r1 := r.mono e1
  -- what stays through the loop
  let hs1 : Hp := hide (fun a => ∃ j, own j = some a) H1
  have hss : Ex hs hs1 := fun a o h => (hide_of (fun ⟨j, z⟩ => by rw [(r1.new j a z).1] at h; cases h)).trans (r1.ex _ _ h)
  have hB1 : Ex (Bh hid own H1) hs1 := hide_le fun a h => .inr h
  have r1' : Rep hs1 hid own H1 σ ρ := ⟨hide_ex, r1.occ, fun j a h => ⟨hide_yes ⟨j, h⟩, (r1.new j a h).2⟩, r1.inj, r1.len, r1.get⟩
  refine ⟨fun n m σ' H' => ∃ own' ρ', m = xs.length - n ∧ n ≤ xs.length ∧ Rep hs1 hid own' H' σ' ρ' ∧ wFor wg b (xs.drop n) E ρ', ⟨xs.length, own, ρ, rfl, Nat.zero_le _, r1', p⟩, ?_⟩
  rintro n m σ' H' ⟨own', ρ', rfl, hn, r', hp⟩
  by_cases hlt : n < xs.length
  · have hx : xs[n]? = some xs[n] := List.getElem?_eq_getElem hlt
    rw [List.drop_eq_getElem_cons hlt] at hp
    obtain ⟨hgo, hyld⟩ := hJ.step n _ H' (hB1.trans r'.ex) hx
    refine .inr ⟨hgo, fun σ2 H2 => ∃ own2 ρ2, Rep hs1 hid own2 H2 σ2 ρ2 ∧ wFor wg b (xs.drop (n + 1)) E ρ2, ?_, ?_⟩
    · rintro σ2 H2 ⟨own2, ρ2, a1, a2⟩
      exact ⟨xs.length - (n + 1), by omega, own2, ρ2, rfl, hlt, a1, a2⟩
    · intro x H'' hy
      obtain ⟨rfl, hxs⟩ := hyld x H'' hy
      have hxs' : Re (Bh hid own' H'') x xs[n] := by
        refine hxs.mono fun a o h => ?_
        obtain ⟨h1, h2⟩ := hide_some h
        have h3 : hs1 a = some o := hB1 _ _ h
        refine (hide_of (fun z => ?_)).trans (r'.ex _ _ h3)
        rcases z with z | ⟨j, z⟩
        · exact h1 (.inl z)
        · rw [(r'.new j a z).1] at h3; cases h3
      refine hg.go hs1 hid own' H'' σ' ρ' _ _ _ _ r' hxs' hp fun σ2 ρ2 p2 r2 _ => ?_
      refine hb.go hs1 hid _ { E with nx := wFor wg b (xs.drop (n + 1)) E, ct := wFor wg b (xs.drop (n + 1)) E, bk := E.nx } own' H'' σ2 ρ2 ⟨fun own H σ ρ p r => ⟨own, ρ, r, p⟩, fun own H σ ρ p r => k.nx own H σ ρ p (r.start hss), fun own H σ ρ p r => ⟨own, ρ, r, p⟩, fun s v H p e q => k.rt s v H p (hss.trans e) q⟩ r2 p2
  · have hn2 : n = xs.length := by omega
    subst hn2
    rw [List.drop_of_length_le (Nat.le_refl _)] at hp
    exact .inl ⟨hJ.stop H' (hB1.trans r'.ex), k.nx own' H' σ' ρ' hp (r'.start hss)⟩⟩
def wWhile (c : WT) (b : WS) : WS := fun E ρ => ∃ W : Nat → Ro → Prop, (∃ m, W m ρ) ∧ ∀ m ρ, W m ρ → c ρ fun t => if t = true then b { E with nx := fun ρ' => ∃ m', m' < m ∧ W m' ρ', ct := fun ρ' => ∃ m', m' < m ∧ W m' ρ', bk := E.nx } ρ else E.nx ρ
instance ls_while {c : TT} {tb : TS} {wc : WT} {b : WS} [hc : LT c wc] [hb : LS tb b] : LS (tWhile c tb) (wWhile wc b) := ⟨fun hs hid D E own H σ ρ k r hw => by
  obtain ⟨W, ⟨m0, w0⟩, turn⟩ := hw
  refine ⟨fun m σ H => ∃ own ρ, Rep hs hid own H σ ρ ∧ W m ρ, ⟨m0, own, ρ, r, w0⟩, ?_⟩
  rintro m σ1 H1 ⟨own1, ρ1, r1, w1⟩
  refine hc.go hs hid own1 H1 σ1 ρ1 _ _ r1 (turn m ρ1 w1) fun t H2 p e => ?_
  have r2 := r1.mono e
  cases t with
  | true =>
    refine iteT ⟨fun σ' H' => ∃ own' ρ', Rep hs hid own' H' σ' ρ' ∧ ∃ m', m' < m ∧ W m' ρ', ?_, ?_⟩
    · rintro σ' H' ⟨own', ρ', a, m', b1, b2⟩
      exact ⟨m', b1, own', ρ', a, b2⟩
    · exact hb.go hs hid _ { E with nx := fun ρ' => ∃ m', m' < m ∧ W m' ρ', ct := fun ρ' => ∃ m', m' < m ∧ W m' ρ', bk := E.nx } own1 H2 σ1 ρ1 ⟨fun own H σ ρ p r => ⟨own, ρ, r, p⟩, fun own H σ ρ p r => k.nx own H σ ρ p r, fun own H σ ρ p r => ⟨own, ρ, r, p⟩, k.rt⟩ r2 (by simpa using p)
  | false => exact iteF (k.nx own1 H2 σ1 ρ1 (by simpa using p) r2)⟩
/-! ### defs -/
abbrev RR := List SV → (SV → Prop) → Prop
def spQ (n : Nat) (R : RR) : Sp := fun vs H Q _ => ∃ hid ss P, ss.length = n ∧ (∀ a, hid a → H a ≠ none) ∧ ReAll (hide hid H) vs ss ∧ R ss P ∧ ∀ s v H', P s → Ex H H' → Re (hide hid H') v s → Q v H'
def wCall (n : Nat) (R : RR) (a : WA) : WE := fun ρ P => a ρ fun ss => ss.length = n ∧ R ss P
instance le_call {n : Nat} {R : RR} {t : TA} {a : WA} [ha : LA t a] : LE (tCall (spQ n R) [] E0 t) (wCall n R a) := ⟨fun hs hid own H σ ρ P Q r hw k => by
  refine ha.go hs hid own H σ ρ _ _ r hw fun ss vs H1 p e1 q => ?_
  rw [List.append_nil]
  exact ⟨Oo hid own, ss, P, p.1, (r.mono e1).occ, q, p.2, fun s v H' p e q => k s v H' p (e1.trans e) q⟩⟩
/-- with lists of one's own among the arguments; what comes back is flat -/
def flatS : SV → Bool
  | .d (.list _) => false
  | .d (.tuple _) => false
  | .d (.dict _) => false
  | .d _ => true
  | _ => false
def tCallB (sp : Sp) (t : TA) : TE := tCall sp [] E0 t
def wCallB (n : Nat) (R : RR) (a : WA) : WE := fun ρ P => a ρ fun ss => ss.length = n ∧ R ss fun s => flatS s = true ∧ P s
theorem flat_re {B B' : Hp} {v : V} {s : SV} (h : flatS s = true) (q : Re B v s) : Re B' v s := by
  cases s with
  | d x =>
    cases q with
    | non => exact .non
    | bl b => exact .bl b
    | int i => exact .int i
    | str x => exact .str x
    | lst a b => cases h
    | tup a b => cases h
    | dic a b => cases h
  | o m => cases h
  | ty n => cases h
  | ref a => cases h
  | own xs => cases h
  | own2 a xss => cases h
  | ln k j xs => cases h
theorem RbAll.re {hs : Hp} {hid : Addr → Prop} {own : Ix → Option Addr} {H : Hp} {σ : L2.St} {ρ : Ro} (r : Rep hs hid own H σ ρ) : ∀ {vs : List V} {ss : List SV}, RbAll hid own H vs ss → ReAll (hide hid H) vs ss
  | _, _, .nil => .nil
  | _, _, .cons a t => .cons (rb_ret r a) (RbAll.re r t)
instance le_callB {n : Nat} {R : RR} {t : TA} {a : WA} [ha : LAB t a] : LE (tCallB (spQ n R) t) (wCallB n R a) := ⟨fun hs hid own H σ ρ P Q r hw k => by
  refine ha.go hs hid own H σ ρ _ _ r hw fun ss vs H1 p e1 q => ?_
  have r1 := r.mono e1
  show spQ n R (vs ++ []) H1 Q E0
  rw [List.append_nil]
  exact ⟨hid, ss, _, p.1, fun a h => r1.occ a (.inl h), q.re r1, p.2, fun s v H' p e q => k s v H' p.2 (e1.trans e) (flat_re p.1 q)⟩⟩
theorem start_rep {H : Hp} {hid : Addr → Prop} {N : List Str} {vs : List V} {ss : List SV} (ho : ∀ a, hid a → H a ≠ none) (h : ReAll (hide hid H) vs ss) : Rep H hid (fun _ => none) H (L2.start N vs) (ss.map some ++ List.replicate (N.length - ss.length) none) := by
  have hO : ∀ a, Oo hid (fun _ => none) a → hid a := fun a h => by
    rcases h with h | ⟨_, h⟩
    · exact h
    · cases h
  have hl := h.len
  refine ⟨Evl.Ex.refl _, fun a h => ho a (hO a h), (fun i a h => nomatch h), (fun i j a h => nomatch h), ?_, fun i s hs => ?_⟩
  · unfold L2.start
    rw [List.length_append, List.length_append, List.length_map, List.length_map, List.length_replicate, List.length_replicate, hl]
  · unfold L2.start
    by_cases hi : i < ss.length
    · rw [List.getElem?_append_left (by simpa using hi), List.getElem?_map] at hs
      cases q : ss[i]? with
      | none => rw [q] at hs; cases hs
      | some s' =>
        rw [q] at hs
        cases hs
        obtain ⟨v, h1, h2⟩ := h.get q
        refine ⟨v, ?_, sat_of (h2.mono (hide_le hO))⟩
        rw [List.getElem?_append_left (by rw [List.length_map, hl]; exact hi), List.getElem?_map, h1]
        rfl
    · rw [List.getElem?_append_right (by simpa using Nat.le_of_not_lt hi)] at hs
      rw [List.getElem?_replicate] at hs
      split at hs <;> cases hs
/-- a def by its reading -/
theorem okQ {P : Program} {w : World} {K : PySem.W.Frag} {mg : Str → Option Value} {base : Heap} {x qual : Str} {st : Stmt} {f : Addr} {fd : FuncData} {N ps : List Str} {k : Nat} {R : RR} (F : Fun K x qual st f fd) (S : FnScope N ps (defScope st))
    (hbody : ∀ (cdv : Value) (A : Around) (outer : List Env) (s : Shared) (H : Hp) (E : XK), Room k (A.deeper (envOfC qual (defScope st) s.heap.objs.size f cdv)) →
      ∃ t w', PSs (cxOf CX0 P w K mg base N qual (defScope st) f cdv A outer s H E).nox (defBody st) t ∧ LS t w' ∧ ∀ ss Pd, ss.length = ps.length → R ss Pd → w' { nx := fun _ => Pd (.d .none), rt := Pd } (ss.map some ++ List.replicate (N.length - ss.length) none)) :
    FnOk P w K mg base CX0 (k + 1) f fd ps (spQ ps.length R) := by
  refine F.ok S (fun vs H Q E h => ?_) (fun cdv A outer s H vs Q E hr h => ?_)
  · obtain ⟨hid, ss, P, h1, _, h2, _⟩ := h
    rw [h2.len]; exact h1
  · obtain ⟨hid, ss, Pd, h1, ho, h2, hR, kk⟩ := h
    obtain ⟨t, w', ht, hl, hw⟩ := hbody cdv A outer s H E hr
    refine ⟨t, ht, hl.go H hid _ { nx := fun _ => Pd (.d .none), rt := Pd } (fun _ => none) H _ _ ⟨fun own H' σ ρ p r => ?_, fun own H' σ ρ p r => p.elim, fun own H' σ ρ p r => p.elim, fun s v H' p e q => kk s v H' p e q⟩ (start_rep ho h2) (hw ss Pd h1 hR)⟩
    exact kk (.d .none) .non H' p r.ex .non
end Lr

namespace Lr
open PySem L2 PySem.Spec PyProof.Rows
/-! ### errors that leave -/
structure XV where
  C : Addr
  f : Option (Str × PyData)
def XRel (B : Hp) (d : Option Addr) (x : XV) : Prop := match x.f with
  | none => d = none
  | some (n, y) => ∃ dx v, d = some dx ∧ B dx = some (.xd [(n, v)]) ∧ Dd B v y
theorem XRel.mono {B B' : Hp} {d : Option Addr} {x : XV} (e : Ex B B') (h : XRel B d x) : XRel B' d x := by
  unfold XRel at h ⊢
  split at h
  · exact h
  · obtain ⟨dx, v, h1, h2, h3⟩ := h
    exact ⟨dx, v, h1, e _ _ h2, h3.mono e⟩
abbrev PX := XV → Prop
def XOk (hs : Hp) (hid : Addr → Prop) (E : XK) (xp : PX) : Prop := ∀ x d H', xp x → Ex hs H' → XRel (hide hid H') d x → E (.ref x.C) d H'
theorem XOk.mono {hs hs' : Hp} {hid hid' : Addr → Prop} {E : XK} {xp : PX} (h : XOk hs hid E xp) (e : Ex hs hs') (o : ∀ a, hid a → hid' a) : XOk hs' hid' E xp :=
  fun x d H' p e' r => h x d H' p (e.trans e') (r.mono (hide_le o))
abbrev RX := List SV → (SV → Prop) → PX → Prop
def spX (n : Nat) (R : RX) : Sp := fun vs H Q E => ∃ hid ss P xp, ss.length = n ∧ (∀ a, hid a → H a ≠ none) ∧ ReAll (hide hid H) vs ss ∧ R ss P xp ∧ (∀ s v H', P s → Ex H H' → Re (hide hid H') v s → Q v H') ∧ XOk H hid E xp
class LEX (E : XK) (t : TE) (w : outParam (PX → WE)) : Prop where
  go : ∀ hs hid own H σ ρ xp (P : SV → Prop) (Q : VK), Rep hs hid own H σ ρ → XOk hs hid E xp → w xp ρ P → (∀ s v H', P s → Ex H H' → Re (Bh hid own H') v s → Q v H') → t σ H Q
instance (priority := 100) lex_le {E : XK} {t : TE} {w : WE} [h : LE t w] : LEX E t (fun _ => w) := ⟨fun hs hid own H σ ρ xp P Q r _ hw k => h.go hs hid own H σ ρ P Q r hw k⟩
def wCallX (n : Nat) (R : RX) (a : WA) : PX → WE := fun xp ρ P => a ρ fun ss => ss.length = n ∧ R ss P xp
instance lex_call {E : XK} {n : Nat} {R : RX} {t : TA} {a : WA} [ha : LA t a] : LEX E (tCall (spX n R) [] E t) (wCallX n R a) := ⟨fun hs hid own H σ ρ xp P Q r hx hw k => by
  refine ha.go hs hid own H σ ρ _ _ r hw fun ss vs H1 p e1 q => ?_
  rw [List.append_nil]
  have r1 := r.mono e1
  exact ⟨Oo hid own, ss, P, xp, p.1, r1.occ, q, p.2, fun s v H' p e q => k s v H' p (e1.trans e) q, hx.mono r1.ex oo_le⟩⟩
/-- an operand that may raise: the left one -/
def wOpX (f : W2) (wa : PX → WE) (wb : WE) : PX → WE := fun xp ρ P => wa xp ρ fun x => wb ρ fun y => f x y P
class LSX (E : XK) (t : TS) (w : outParam (PX → WS)) : Prop where
  go : ∀ hs hid D Ed own H σ ρ xp, EOk hs hid D Ed → XOk hs hid E xp → Rep hs hid own H σ ρ → w xp Ed ρ → t D σ H
instance (priority := 100) lsx_ls {E : XK} {t : TS} {w : WS} [h : LS t w] : LSX E t (fun _ => w) := ⟨fun hs hid D Ed own H σ ρ xp k _ r hw => h.go hs hid D Ed own H σ ρ k r hw⟩
def wSeqX (a b : PX → WS) : PX → WS := fun xp E ρ => a xp { E with nx := b xp E } ρ
instance lsx_seq {E : XK} {t u : TS} {a b : PX → WS} [ha : LSX E t a] [hb : LSX E u b] : LSX E (tSeq t u) (wSeqX a b) := ⟨fun hs hid D Ed own H σ ρ xp k x r hw =>
  ha.go hs hid { D with nx := u D } { Ed with nx := b xp Ed } own H σ ρ xp ⟨fun own H σ ρ p r => hb.go hs hid D Ed own H σ ρ xp k x r p, k.bk, k.ct, k.rt⟩ x r hw⟩
def wIfX (c : WT) (a b : PX → WS) : PX → WS := fun xp E ρ => c ρ fun t => if t = true then a xp E ρ else b xp E ρ
instance lsx_if {E : XK} {c : TT} {t u : TS} {wc : WT} {a b : PX → WS} [hc : LT c wc] [ha : LSX E t a] [hb : LSX E u b] : LSX E (tIfS c t u) (wIfX wc a b) := ⟨fun hs hid D Ed own H σ ρ xp k x r hw => by
  refine hc.go hs hid own H σ ρ _ _ r hw fun c H' p e => ?_
  cases c with
  | true => exact iteT (ha.go hs hid D Ed own H' σ ρ xp k x (r.mono e) (by simpa using p))
  | false => exact iteF (hb.go hs hid D Ed own H' σ ρ xp k x (r.mono e) (by simpa using p))⟩
def wDropX (e : PX → WE) : PX → WS := fun xp E ρ => e xp ρ fun _ => E.nx ρ
instance lsx_drop {E : XK} {t : TE} {e : PX → WE} [he : LEX E t e] : LSX E (tDrop t) (wDropX e) := ⟨fun hs hid D Ed own H σ ρ xp k x r hw => he.go hs hid own H σ ρ xp _ _ r x hw fun s v H' p e q => k.nx own H' σ ρ p (r.mono e)⟩
def wRetX (e : PX → WE) : PX → WS := fun xp E ρ => e xp ρ E.rt
instance lsx_ret {E : XK} {t : TE} {e : PX → WE} [he : LEX E t e] : LSX E (tRet t) (wRetX e) := ⟨fun hs hid D Ed own H σ ρ xp k x r hw => he.go hs hid own H σ ρ xp _ _ r x hw fun s v H' p e q => k.rt s v H' p (r.ex.trans e) (q.mono (hide_le oo_le))⟩
def wAsgX (e : PX → WE) (g : WG) : PX → WS := fun xp E ρ => e xp ρ fun s => g s ρ E.nx
instance lsx_asg {E : XK} {t : TE} {g : TG} {js : List Nat} {e : PX → WE} {wg : WG} [he : LEX E t e] [hg : LG g js wg] : LSX E (tAsg t g) (wAsgX e wg) := ⟨fun hs hid D Ed own H σ ρ xp k x r hw => by
  refine he.go hs hid own H σ ρ xp _ _ r x hw fun s v H' p e q => ?_
  exact hg.go hs hid own H' σ ρ v s _ _ (r.mono e) q p fun σ' ρ' p' r' _ => k.nx own H' σ' ρ' p' r'⟩
def wRelX (i : Nat) (w : PX → WS) : PX → WS := fun xp E ρ => gown ρ[i]? fun ds => w xp E (ρ.set i (some (.d (.list ds))))
instance lsx_rel {E : XK} {i : Nat} {t : TS} {w : PX → WS} [h : LSX E t w] : LSX E (tRel i t) (wRelX i w) := ⟨fun hs hid D Ed own H σ ρ xp k x r hw => by
  obtain ⟨ds, a, vs, p, h0, _⟩ := gown_get r hw
  obtain ⟨own', r'⟩ := r.rel h0
  exact h.go hs hid D Ed own' H σ _ xp k x r' p⟩
def wForX (i : WI) (g : WG) (b : PX → WS) : PX → WS := fun xp E ρ => i ρ fun xs => wFor g (b xp) xs E ρ
instance lsx_for {E : XK} {wi : TI} {g : TG} {tb : TS} {js : List Nat} {i : WI} {wg : WG} {b : PX → WS} [hi : LI wi i] [hg : LG g js wg] [hb : LSX E tb b] : LSX E (tFor wi g tb) (wForX i wg b) := ⟨fun hs hid D Ed own H σ ρ xp k x r hw => by
  refine hi.go hs hid own H σ ρ _ _ r hw fun xs J H1 p e1 hJ => ?_
  have r1 := r.mono e1
  let hs1 : Hp := hide (fun a => ∃ j, own j = some a) H1
  have hss : Ex hs hs1 := fun a o h => (hide_of (fun ⟨j, z⟩ => by rw [(r1.new j a z).1] at h; cases h)).trans (r1.ex _ _ h)
  have hB1 : Ex (Bh hid own H1) hs1 := hide_le fun a h => .inr h
  have r1' : Rep hs1 hid own H1 σ ρ := ⟨hide_ex, r1.occ, fun j a h => ⟨hide_yes ⟨j, h⟩, (r1.new j a h).2⟩, r1.inj, r1.len, r1.get⟩
  have x1 : XOk hs1 hid E xp := x.mono hss fun _ z => z
  refine ⟨fun n m σ' H' => ∃ own' ρ', m = xs.length - n ∧ n ≤ xs.length ∧ Rep hs1 hid own' H' σ' ρ' ∧ wFor wg (b xp) (xs.drop n) Ed ρ', ⟨xs.length, own, ρ, rfl, Nat.zero_le _, r1', p⟩, ?_⟩
  rintro n m σ' H' ⟨own', ρ', rfl, hn, r', hp⟩
  by_cases hlt : n < xs.length
  · have hx : xs[n]? = some xs[n] := List.getElem?_eq_getElem hlt
    rw [List.drop_eq_getElem_cons hlt] at hp
    obtain ⟨hgo, hyld⟩ := hJ.step n _ H' (hB1.trans r'.ex) hx
    refine .inr ⟨hgo, fun σ2 H2 => ∃ own2 ρ2, Rep hs1 hid own2 H2 σ2 ρ2 ∧ wFor wg (b xp) (xs.drop (n + 1)) Ed ρ2, ?_, ?_⟩
    · rintro σ2 H2 ⟨own2, ρ2, a1, a2⟩
      exact ⟨xs.length - (n + 1), by omega, own2, ρ2, rfl, hlt, a1, a2⟩
    · intro x H'' hy
      obtain ⟨rfl, hxs⟩ := hyld x H'' hy
      have hxs' : Re (Bh hid own' H'') x xs[n] := by
        refine hxs.mono fun a o h => ?_
        obtain ⟨h1, h2⟩ := hide_some h
        have h3 : hs1 a = some o := hB1 _ _ h
        refine (hide_of (fun z => ?_)).trans (r'.ex _ _ h3)
        rcases z with z | ⟨j, z⟩
        · exact h1 (.inl z)
        · rw [(r'.new j a z).1] at h3; cases h3
      refine hg.go hs1 hid own' H'' σ' ρ' _ _ _ _ r' hxs' hp fun σ2 ρ2 p2 r2 _ => ?_
      refine hb.go hs1 hid _ { Ed with nx := wFor wg (b xp) (xs.drop (n + 1)) Ed, ct := wFor wg (b xp) (xs.drop (n + 1)) Ed, bk := Ed.nx } own' H'' σ2 ρ2 xp ⟨fun own H σ ρ p r => ⟨own, ρ, r, p⟩, fun own H σ ρ p r => k.nx own H σ ρ p (r.start hss), fun own H σ ρ p r => ⟨own, ρ, r, p⟩, fun s v H p e q => k.rt s v H p (hss.trans e) q⟩ x1 r2 p2
  · have hn2 : n = xs.length := by omega
    subst hn2
    rw [List.drop_of_length_le (Nat.le_refl _)] at hp
    exact .inl ⟨hJ.stop H' (hB1.trans r'.ex), k.nx own' H' σ' ρ' hp (r'.start hss)⟩⟩
/-! ### raise -/
theorem PE.up {X : Cx} {e : Expr} {t : TE} (h : PE X e t) : PE X e (fun σ H Q2 => ∃ Q1, t σ H Q1 ∧ ∀ y H1, Q1 y H1 → Q2 y H1) := ⟨fun pins s σ H Q I ⟨Q1, h1, k⟩ => thn (h.run pins s σ H Q1 I h1) fun u s' ⟨v, H', I', r, q⟩ => ⟨v, H', I', r, k v H' q⟩⟩
def tRaise (t : L2.St → Hp → XK → Prop) (E : XK) : TS := fun _ σ H => t σ H E
theorem ps_raiseQ {X : Cx} {E : XK} {e : Expr} {t : L2.St → Hp → XK → Prop} {pos : Pos} (hc : X.calm = true) (tk : Takes X (fun cls d _ H => E cls d H)) (he : PMk X e t) : PS X (.Raise (some e) none pos) (tRaise t E) := ps_raise hc tk he
def asD (x : SV) (P : PyData → Prop) : Prop := match x with
  | .d d => P d
  | _ => False
/-- C(e) raised -/
def tRz1 (C : Addr) (f : Str) (te : TE) : L2.St → Hp → XK → Prop := fun σ H Q => te σ H fun y H1 => ∀ d H2, Ex H1 H2 → H1 d = none → H2 d = some (.xd [(f, y)]) → Q (.ref C) (some d) H2
theorem pmk_1 {X : Cx} {x f : Str} {C : Addr} {e : Expr} {te : TE} {p pos : Pos} (E : Er1 X.prog X.w X.K X.mg X.base x C f) (hr : Room 2 X.A) (hg : Gl X x) (hE : PE X e te)
    (hdb : (x == ("__debug__" : Str)) = false := by decide) (he : starEach [e] X.env = (false, eval e X.env) :: starEach [] X.env := by rfl) (hpl : (backTo pos (starEach [] X.env)).any (·.1) = false := by rfl) :
    PMk X (.Call (.Name x p) [e] [] pos) (tRz1 C f te) := by
  obtain ⟨T, hm, hno, _, _, fI, fd, iC, tI, F1, hb⟩ := E
  have h := pmk_oex (CX := CX0) (p := p) (pos := pos) T iC tI F1 hr hb .nil pass0 hg hm (pa_cons (PE.up hE) pa_nil he) hdb he hpl
  intro pins s σ H Q I hq
  refine h pins s σ H Q I ⟨_, hq, fun y H1 k => ⟨(by show 1 ≤ 1000; decide), fun a ha => ⟨a, C, y, rfl, T, hno, upd_same, fun d hd nd => ⟨rfl, d, [(f, y)], upd_same, ?_, ?_, k d _ ?_ ?_ upd_same⟩⟩⟩⟩
  · rw [upd_ne nd]; exact upd_same
  · rw [upd_ne nd] at hd; exact hd
  · have hd' : H1 d = none := by rw [upd_ne nd] at hd; exact hd
    refine fun b o hb => ?_
    have n1 : b ≠ d := ne_of_none hb hd'
    have n2 : b ≠ a := ne_of_none hb ha
    rw [upd_ne n1, del_ne n2, upd_ne n2, upd_ne n1, upd_ne n2]
    exact hb
  · rw [upd_ne nd] at hd; exact hd
/-- C() raised -/
def tRz0 (C : Addr) : L2.St → Hp → XK → Prop := fun _ H Q => Q (.ref C) none H
theorem pmk_0 {X : Cx} {x : Str} {C : Addr} {p pos : Pos} (E : Er0 X.K X.mg x C) (hg : Gl X x) (r : Raises X (.ref C)) (hdb : (x == ("__debug__" : Str)) = false := by decide) : PMk X (.Call (.Name x p) [] [] pos) (tRz0 C) := by
  obtain ⟨hm, kC, q, _⟩ := E
  intro pins s σ H Q I h
  refine wpAny_Call_Name_kw (ld_glob I hg hm ?_ hdb)
  refine PySem.W.callWith_K0 I.kIn kC ?_
  show wpAny _ _ (call (.ref C) []) _ _ _
  obtain ⟨bm, N, nm, qn, bs, hdct, sn, sub, ab, col, dd, k0, k1, k2, k3, k5, mN, hC, hN, hni, T⟩ := exc_obj I.kIn q
  refine wpAny_call_exc_subT F.excBase_ValueError T hC hN hni (fun h' e hx => ?_) (by decide)
  exact mk_of I hx r h (I.hok.gone hx.new)
def wRz1 (C : Addr) (f : Str) (e : WE) : PX → WS := fun xp _ ρ => e ρ fun y => asD y fun d => xp ⟨C, some (f, d)⟩
def wRz0 (C : Addr) : PX → WS := fun xp _ _ => xp ⟨C, none⟩
instance lsx_rz1 {E : XK} {C : Addr} {f : Str} {t : TE} {e : WE} [he : LE t e] : LSX E (tRaise (tRz1 C f t) E) (wRz1 C f e) := ⟨fun hs hid D Ed own H σ ρ xp k x r hw => by
  refine he.go hs hid own H σ ρ _ _ r hw fun s v H1 p e1 q d H2 e2 hd h2 => ?_
  unfold asD at p
  split at p
  · have r2 := (r.mono e1).mono e2
    refine x _ _ _ p r2.ex ⟨d, v, rfl, ?_, ?_⟩
    · exact (hide_of (fun z => (r.mono e1).notO hd (oo_le _ z))).trans h2
    · exact Dd.mono ((hide_mono e2).trans (hide_le oo_le)) q
  · exact p.elim⟩
instance lsx_rz0 {E : XK} {C : Addr} : LSX E (tRaise (tRz0 C) E) (wRz0 C) := ⟨fun hs hid D Ed own H σ ρ xp k x r hw => x _ _ _ hw r.ex rfl⟩
/-! ### defs that may raise -/
theorem okX {P : Program} {w : World} {K : PySem.W.Frag} {mg : Str → Option Value} {base : Heap} {x qual : Str} {st : Stmt} {f : Addr} {fd : FuncData} {N ps : List Str} {k : Nat} {R : RX} (F : Fun K x qual st f fd) (S : FnScope N ps (defScope st))
    (hbody : ∀ (cdv : Value) (A : Around) (outer : List Env) (s : Shared) (H : Hp) (E : XK), Room k (A.deeper (envOfC qual (defScope st) s.heap.objs.size f cdv)) →
      ∃ t w', PSs (cxOf (L2.CX P w) P w K mg base N qual (defScope st) f cdv A outer s H E) (defBody st) t ∧ LSX E t w' ∧ ∀ ss Pd xp, ss.length = ps.length → R ss Pd xp → w' xp { nx := fun _ => Pd (.d .none), rt := Pd } (ss.map some ++ List.replicate (N.length - ss.length) none)) :
    FnOk P w K mg base (L2.CX P w) (k + 1) f fd ps (spX ps.length R) := by
  refine F.okX S (fun vs H Q E h => ?_) (fun cdv A outer s H vs Q E hr h => ?_)
  · obtain ⟨hid, ss, P, xp, h1, _, h2, _⟩ := h
    rw [h2.len]; exact h1
  · obtain ⟨hid, ss, Pd, xp, h1, ho, h2, hR, kk, hx⟩ := h
    obtain ⟨t, w', ht, hl, hw⟩ := hbody cdv A outer s H E hr
    refine ⟨t, ht, hl.go H hid _ { nx := fun _ => Pd (.d .none), rt := Pd } (fun _ => none) H _ _ xp ⟨fun own H' σ ρ p r => ?_, fun own H' σ ρ p r => p.elim, fun own H' σ ρ p r => p.elim, fun s v H' p e q => kk s v H' p e q⟩ hx (start_rep ho h2) (hw ss Pd xp h1 hR)⟩
    exact kk (.d .none) .non H' p r.ex .non
/-- a def that may raise, by its name -/
def CalX (P : Program) (w : World) (K : PySem.W.Frag) (mg : Str → Option Value) (base : Heap) (k : Nat) (x : Str) (ps : List Str) (sp : Sp) : Prop :=
  ∃ f fd, FnOk P w K mg base (L2.CX P w) k f fd ps sp ∧ mg x = some (.ref f) ∧ PySem.W.keepIn K (.ref f) = true ∧ Binds K fd ps []
theorem pe_calX {X : Cx} {k : Nat} {x : Str} {ps : List Str} {sp : Sp} {E : XK} {e : Expr} {es : List Expr} {t : TA} {p pos : Pos} (C : CalX X.prog X.w X.K X.mg X.base k x ps sp) (hr : Room k X.A) (tk : Takes X (fun cls d _ H => E cls d H)) (hg : Gl X x) (ha : PA X (e :: es) t)
    (hdb : (x == ("__debug__" : Str)) = false := by decide) (he : starEach (e :: es) X.env = (false, eval e X.env) :: starEach es X.env := by rfl) (hpl : (backTo pos (starEach es X.env)).any (·.1) = false := by rfl) :
    PE X (.Call (.Name x p) (e :: es) [] pos) (tCall sp [] E t) := by
  obtain ⟨f, fd, G, m, kp, b⟩ := C
  exact pe_call G hr hg m kp b .nil (passes_call tk fun _ _ _ _ h => h) ha hdb he hpl
/-! ### def f(a, .., *v) -/
theorem fn_starF {CX : CXT} {P : Program} {w : World} {K : PySem.W.Frag} {mg : Str → Option Value} {base : Heap} {k : Nat} {f : Addr} {name qual : Str} {params : Arguments} {body : List Stmt} {scope : Scope} {dV kV doc pm cdv ct oc : Value} {an od : Option Addr}
    {osl : Array (Option Value)} {N ps : List Str} {sp : Sp} {pv : Str} (lk : K.lookup f = some ⟨oc, od, .func (PySem.W.fnOf name qual params body scope dV kV doc pm an cdv ct), osl⟩) (hcd : PySem.W.codeIn K cdv qual = true) (S : FnScope N (ps ++ [pv]) scope) (hCX : StX.CXUp CX)
    (hb : ∀ us rest : List Value, us.length = ps.length → bindArgs (PySem.W.fnOf name qual params body scope dV kV doc pm an cdv ct) ⟨us ++ rest, []⟩ = (newTuple rest >>= fun t => pure (ps.zip us ++ [(pv, t)])))
    (hbody : ∀ (A : Around) (outer : List Env) (s : Shared) (H : Hp) (vs : List V) (Q : VK) (E : XK), Room k (A.deeper (envOfC qual scope s.heap.objs.size f cdv)) → sp vs H Q E →
      ∃ t, PSs (cxOf CX P w K mg base N qual scope f cdv A outer s H E) body t ∧ t { nx := fun _ H' => Q .non H', rt := Q } (L2.start N vs) H) :
    FnR P w K mg base CX (k + 1) f (fun vs H Q E => ∃ ws rest, vs = ws ++ rest ∧ ws.length = ps.length ∧ rest.length ≤ sizeLine ∧ ∀ p (o : Obj), H p = Option.none → o.dict = none → sp (ws ++ [V.ref p]) (upd H p (.frz o (.tup rest))) Q E) := by
  rintro A out s0 G us _ Q E room env rel ⟨ws, rest, rfl, lw, few, want⟩
  obtain ⟨u1, u2, rfl, ra, rb⟩ := StX.vals_split rel
  have fresh : G s0.heap.objs.size = none := env.hok.fresh (Nat.le_refl _)
  have m1 : u1.length = ps.length := ra.length.symm.trans lw
  have m2 : u2.length ≤ sizeLine := by have := rb.length; omega
  let ob : Obj := { cls := .type "tuple", data := .seq u2.toArray }
  have laid : ObjOk P w (upd G s0.heap.objs.size (.frz ob (.tup rest))) (s0.heap.push ob) s0.heap.objs.size (.frz ob (.tup rest)) := ⟨Heap.get?_push_size _ rfl, few, u2, rb, IsTup.new _ _⟩
  have kept := StX.un_laid (fs := frs out) (s := s0) (o := ob) (u := .frz ob (.tup rest)) fresh
  refine StX.run_bnd lk hcd S room env (G := fun xs G2 => ∃ p o, G p = none ∧ o.dict = none ∧ xs = ws ++ [V.ref p] ∧ G2 = upd G p (.frz o (.tup rest))) (fun A2 X2 Q2 go => ?_) ?_
  · rw [hb u1 u2 m1]
    have done := go _ _ (ws ++ [V.ref s0.heap.objs.size]) (u1 ++ [Value.ref s0.heap.objs.size]) (StX.env0_laid env laid) kept rfl (fun e s' => hCX out s0 G _ _ E e s' kept (fun _ _ z => Heap.get?_push_of_some _ z) rfl) (ra.append (.cons rfl .nil)) (by simp [lw]) ⟨_, ob, fresh, rfl, rfl, rfl⟩
    rw [List.zip_append m1.symm] at done
    exact wpAny_bind (wpAny_newTuple (wpAny_pure done) m2)
  · rintro s2 _ _ ⟨p, o, hp, hd, rfl, rfl⟩ room2
    exact hbody A out s2 _ _ Q E room2 (want p o hp hd)
theorem ReAll.split {B : Hp} : ∀ {vs : List V} {ss : List SV} (n : Nat), ReAll B vs ss → ReAll B (vs.take n) (ss.take n) ∧ ReAll B (vs.drop n) (ss.drop n)
  | _, _, 0, h => ⟨.nil, h⟩
  | _, _, _ + 1, .nil => ⟨.nil, .nil⟩
  | _, _, n + 1, .cons a t => ⟨.cons a (t.split n).1, (t.split n).2⟩
theorem ReAll.app {B : Hp} : ∀ {vs ws : List V} {ss ts : List SV}, ReAll B vs ss → ReAll B ws ts → ReAll B (vs ++ ws) (ss ++ ts)
  | _, _, _, _, .nil, s => s
  | _, _, _, _, .cons a t, s => .cons a (t.app s)
abbrev RXS := List SV → List PyData → (SV → Prop) → PX → Prop
def spXS (n : Nat) (R : RXS) : Sp := fun vs H Q E => ∃ hid ss ds P xp, ss.length = n ∧ ds.length ≤ 1000 ∧ (∀ a, hid a → H a ≠ none) ∧ ReAll (hide hid H) vs (ss ++ ds.map .d) ∧ R ss ds P xp ∧ (∀ s v H', P s → Ex H H' → Re (hide hid H') v s → Q v H') ∧ XOk H hid E xp
theorem ReAll.all_d {B : Hp} : ∀ {vs : List V} {ds : List PyData}, ReAll B vs (ds.map .d) → DdAll B vs ds
  | _, [], .nil => .nil
  | _, _ :: _, .cons a t => .cons a (ReAll.all_d t)
/-- a def with a star, by its reading -/
theorem okXS {P : Program} {w : World} {K : PySem.W.Frag} {mg : Str → Option Value} {base : Heap} {x qual : Str} {st : Stmt} {f : Addr} {fd : FuncData} {N ps : List Str} {pv : Str} {k : Nat} {R : RXS} (F : Fun K x qual st f fd) (S : FnScope N (ps ++ [pv]) (defScope st))
    (hb : ∀ (kV doc pm : Value) (an : Option Addr) (cdv ct : Value) (us rest : List Value), us.length = ps.length → bindArgs (PySem.W.fnOf x qual (defArgs st) (defBody st) (defScope st) .none kV doc pm an cdv ct) ⟨us ++ rest, []⟩ = (newTuple rest >>= fun t => pure (ps.zip us ++ [(pv, t)])))
    (hbody : ∀ (cdv : Value) (A : Around) (outer : List Env) (s : Shared) (H : Hp) (E : XK), Room k (A.deeper (envOfC qual (defScope st) s.heap.objs.size f cdv)) →
      ∃ t w', PSs (cxOf (L2.CX P w) P w K mg base N qual (defScope st) f cdv A outer s H E) (defBody st) t ∧ LSX E t w' ∧ ∀ ss ds Pd xp, ss.length = ps.length → R ss ds Pd xp → w' xp { nx := fun _ => Pd (.d .none), rt := Pd } ((ss ++ [SV.d (.tuple ds)]).map some ++ List.replicate (N.length - (ss ++ [SV.d (.tuple ds)]).length) none)) :
    FnR P w K mg base (L2.CX P w) (k + 1) f (spXS ps.length R) := by
  obtain ⟨oc, od, kV, doc, pm, an, cdv, ct, osl, rfl, lk, hcd⟩ := F.ex
  have G := fn_starF (CX := L2.CX P w) (sp := fun vs H Q E => ∃ hid ss ds Pd xp, ss.length = ps.length ∧ (∀ a, hid a → H a ≠ none) ∧ ReAll (hide hid H) vs (ss ++ [.d (.tuple ds)]) ∧ R ss ds Pd xp ∧ (∀ s v H', Pd s → Ex H H' → Re (hide hid H') v s → Q v H') ∧ XOk H hid E xp) lk hcd S StX.cxUp (fun us rest h => hb kV doc pm an cdv ct us rest h) (k := k) (P := P) (w := w) (mg := mg) (base := base) ?_
  · refine G.imp fun vs H Q E h => ?_
    obtain ⟨hid, ss, ds, Pd, xp, h1, h2, ho, hr, hR, kk, hx⟩ := h
    obtain ⟨s1, s2⟩ := hr.split ps.length
    rw [List.take_left' h1] at s1
    rw [List.drop_left' h1] at s2
    have t2 := ReAll.all_d s2
    refine ⟨vs.take ps.length, vs.drop ps.length, (List.take_append_drop _ _).symm, by rw [s1.len, h1], by rw [t2.len]; exact Evl.sz_of (by omega), fun p o hp hd => ?_⟩
    have e := Evl.Ex.new hp (o := .frz o (.tup (vs.drop ps.length)))
    have np : ¬ hid p := fun z => ho p z hp
    refine ⟨hid, ss, ds, Pd, xp, h1, fun a h => ne_none_mono e (ho a h), (s1.mono (hide_mono e)).app (.cons ?_ .nil), hR, fun s v H' p e' q => kk s v H' p (e.trans e') q, hx.mono e fun _ z => z⟩
    exact .tup ⟨o, (hide_of np).trans upd_same, hd⟩ (t2.mono (hide_mono e))
  · intro A outer s H vs Q E hr h
    obtain ⟨hid, ss, ds, Pd, xp, h1, ho, h2, hR, kk, hx⟩ := h
    obtain ⟨t, w', ht, hl, hw⟩ := hbody cdv A outer s H E hr
    refine ⟨t, ht, hl.go H hid _ { nx := fun _ => Pd (.d .none), rt := Pd } (fun _ => none) H _ _ xp ⟨fun own H' σ ρ p r => ?_, fun own H' σ ρ p r => p.elim, fun own H' σ ρ p r => p.elim, fun s v H' p e q => kk s v H' p e q⟩ hx (start_rep ho h2) (hw ss ds Pd xp h1 hR)⟩
    exact kk (.d .none) .non H' p r.ex .non
def CalR (P : Program) (w : World) (K : PySem.W.Frag) (mg : Str → Option Value) (base : Heap) (k : Nat) (x : Str) (sp : Sp) : Prop :=
  ∃ f, FnR P w K mg base (L2.CX P w) k f sp ∧ mg x = some (.ref f) ∧ PySem.W.keepIn K (.ref f) = true
theorem pe_calR {X : Cx} {k : Nat} {x : Str} {sp : Sp} {E : XK} {e : Expr} {es : List Expr} {t : TA} {p pos : Pos} (C : CalR X.prog X.w X.K X.mg X.base k x sp) (hr : Room k X.A) (tk : Takes X (fun cls d _ H => E cls d H)) (hg : Gl X x) (ha : PA X (e :: es) t)
    (hdb : (x == ("__debug__" : Str)) = false := by decide) (he : starEach (e :: es) X.env = (false, eval e X.env) :: starEach es X.env := by rfl) (hpl : (backTo pos (starEach es X.env)).any (·.1) = false := by rfl) :
    PE X (.Call (.Name x p) (e :: es) [] pos) (tCall sp [] E t) := by
  obtain ⟨f, G, m, kp⟩ := C
  refine ⟨fun pins s σ H Q I h => ?_⟩
  refine wpAny_Call_Name_kw (ld_glob I hg m ?_ hdb)
  refine PySem.W.callWith_K (h₀ := X.base) I.ok.mod.kin kp (thn (ha.run pos pins s σ H _ I h) fun us s1 ⟨vs, H1, I1, r, q⟩ => ⟨I1.kIn, ?_⟩) he hpl
  have q : sp (vs ++ []) H1 Q E := q
  rw [List.append_nil] at q
  exact wpAny_call (run_fnR G hr (passes_call tk fun _ _ _ _ h => h) I1 r q)
theorem pe_calR0 {X : Cx} {k : Nat} {x : Str} {sp : Sp} {E : XK} {p pos : Pos} (C : CalR X.prog X.w X.K X.mg X.base k x sp) (hr : Room k X.A) (tk : Takes X (fun cls d _ H => E cls d H)) (hg : Gl X x)
    (hdb : (x == ("__debug__" : Str)) = false := by decide) : PE X (.Call (.Name x p) [] [] pos) (tCall sp [] E tNil) := by
  obtain ⟨f, G, m, kp⟩ := C
  refine ⟨fun pins s σ H Q I h => ?_⟩
  refine wpAny_Call_Name_kw (ld_glob I hg m ?_ hdb)
  refine PySem.W.callWith_K0 I.kIn kp ?_
  exact wpAny_call (run_fnR (us := []) G hr (passes_call tk fun _ _ _ _ h => h) I .nil h)
def wCallXS (n : Nat) (R : RXS) (a : WA) : PX → WE := fun xp ρ P => a ρ fun ss => n ≤ ss.length ∧ asDs (ss.drop n) fun ds => ds.length ≤ 1000 ∧ R (ss.take n) ds P xp
theorem allD_map : ∀ {ss : List SV} {ds : List PyData}, allD ss = some ds → ss = ds.map .d
  | [], ds, h => by cases h; rfl
  | .d x :: r, ds, h => by
    unfold allD at h
    cases q : allD r with
    | none => rw [q] at h; cases h
    | some es => rw [q] at h; cases h; rw [allD_map q]; rfl
instance lex_callS {E : XK} {n : Nat} {R : RXS} {t : TA} {a : WA} [ha : LA t a] : LEX E (tCall (spXS n R) [] E t) (wCallXS n R a) := ⟨fun hs hid own H σ ρ xp P Q r hx hw k => by
  refine ha.go hs hid own H σ ρ _ _ r hw fun ss vs H1 p e1 q => ?_
  rw [List.append_nil]
  have r1 := r.mono e1
  obtain ⟨hn, p⟩ := p
  unfold asDs at p
  split at p
  · rename_i ds hd
    have e := allD_map hd
    refine ⟨Oo hid own, ss.take n, ds, P, xp, by rw [List.length_take]; omega, p.1, r1.occ, ?_, p.2, fun s v H' p e q => k s v H' p (e1.trans e) q, hx.mono r1.ex oo_le⟩
    rw [← e, List.take_append_drop]
    exact q
  · exact p.elim⟩
/-- called where nothing is let out -/
def wCall0 (n : Nat) (R : RX) (a : WA) : WE := fun ρ P => a ρ fun ss => ss.length = n ∧ R ss P fun _ => False
instance le_callX0 {n : Nat} {R : RX} {t : TA} {a : WA} [ha : LA t a] : LE (tCall (spX n R) [] E0 t) (wCall0 n R a) := ⟨fun hs hid own H σ ρ P Q r hw k =>
  (lex_call (E := E0)).go hs hid own H σ ρ (fun _ => False) P Q r (fun _ _ _ p _ _ => p.elim) hw k⟩
def wCallS0 (n : Nat) (R : RXS) (a : WA) : WE := wCallXS n R a fun _ => False
instance le_callXS0 {n : Nat} {R : RXS} {t : TA} {a : WA} [ha : LA t a] : LE (tCall (spXS n R) [] E0 t) (wCallS0 n R a) := ⟨fun hs hid own H σ ρ P Q r hw k =>
  (lex_callS (E := E0)).go hs hid own H σ ρ (fun _ => False) P Q r (fun _ _ _ p _ _ => p.elim) hw k⟩
theorem takesN {X : Cx} : Takes X (fun cls d _ H => E0 cls d H) := takes0
end Lr

namespace Lr
open PySem L2 PySem.Spec PyProof.Rows
/-! ### lists of one's own, further -/
theorem ps_own {X : Cx} {i : Nat} {x : Str} {e : Expr} {te : TE} {pos pos' : Pos} (nd : X.N.Nodup) (at_ : X.N[i]? = some x) (loc : Loc X.env.scope x) (he : PE X e te) (hs : swapsWith e (some (.Name x pos')) pos.line X.env = pure false := by rfl)
    (hf : X.fn x = true ∨ X.env.scope.names.lookup x = some .local := by first | exact .inl rfl | exact .inr rfl) : PS X (.Assign [.Name x pos'] e pos) (tOwn i te) := ps_set nd at_ loc he hs hf
theorem lcO {X : Cx} {st : Stmt} {i : Nat} {us vs : List Nat} {wi : TI} {g : TG} {tt : TT} {te : TE} (h : us = vs) (p : PS X st (tAsg (tLc wi g tt te us) (gName i))) : PS X st (tOwn i (tLc wi g tt te vs)) := h ▸ p
/-- a, b = x, y: the first, the second, both of one's own -/
def tPar11 (i j : Nat) (ta : TA) : TS := tPar i j ta
def tPar01 (i j : Nat) (ta : TA) : TS := tPar i j ta
def tPar10 (i j : Nat) (ta : TA) : TS := tPar i j ta
theorem parO11 {X : Cx} {st : Stmt} {i j : Nat} {ta : TA} (h : PS X st (tPar i j ta)) : PS X st (tPar11 i j ta) := h
theorem parO01 {X : Cx} {st : Stmt} {i j : Nat} {ta : TA} (h : PS X st (tPar i j ta)) : PS X st (tPar01 i j ta) := h
theorem parO10 {X : Cx} {st : Stmt} {i j : Nat} {ta : TA} (h : PS X st (tPar i j ta)) : PS X st (tPar10 i j ta) := h
section
variable {hs : Hp} {hid : Addr → Prop} {own : Ix → Option Addr} {H H' : Hp} {σ : L2.St} {ρ : Ro}
theorem put_comm {i j : Nat} {x : V} {y : V} (h : i ≠ j) : (σ.set i (some x)).set j (some y) = (σ.set j (some y)).set i (some x) := List.set_comm _ _ h
end
def wPar11 (i j : Nat) (a b : Ro → (List PyData → Prop) → Prop) : WS := fun E ρ => i ≠ j ∧ a ρ fun xs => b ρ fun ys => E.nx ((ρ.set i (some (.own xs))).set j (some (.own ys)))
instance ls_par11 {i j : Nat} {ta tb : TE} {a b : Ro → (List PyData → Prop) → Prop} [ha : LF ta a] [hb : LF tb b] : LS (tPar11 i j (tCons ta (tCons tb tNil))) (wPar11 i j a b) := ⟨fun hs hid D E own H σ ρ k r hw => by
  obtain ⟨ne, hw⟩ := hw
  refine ha.go hs hid own H σ ρ _ _ r hw fun xs p vs H1 p1 e1 n1 h1 t1 => ?_
  have r1 := r.own_new i e1 n1 h1 t1
  -- the second one is made while the first is in hand: hide it
  let hid' : Addr → Prop := fun b => hid b ∨ b = p
  have np : ¬ Oo hid own p := r.notO n1
  have rp : Rep hs hid' own H1 σ ρ := by
    have hB : Ex (Bh hid own H) (Bh hid' own H1) := fun b o h => by
      obtain ⟨a1, a2⟩ := hide_some h
      refine (hide_of (fun z => ?_)).trans (e1 _ _ a2)
      rcases z with (z | rfl) | z
      · exact a1 (.inl z)
      · rw [n1] at a2; cases a2
      · exact a1 (.inr z)
    have r2 := r.mono e1
    refine ⟨r2.ex, fun b h => ?_, fun q b h => ⟨(r2.new q b h).1, ?_⟩, r2.inj, r2.len, fun q s h => ?_⟩
    · rcases h with (h | rfl) | h
      · exact r2.occ b (.inl h)
      · rw [h1]; exact fun z => nomatch z
      · exact r2.occ b (.inr h)
    · rintro (z | z)
      · exact (r2.new q b h).2 z
      · exact np (.inr ⟨q, by rw [h, z]⟩)
    · obtain ⟨v, g1, g2⟩ := r.get q s h
      refine ⟨v, g1, ?_⟩
      exact g2.lift (fun x a _ ha => r.keeps e1 x a ha) hB
  refine hb.go hs hid' own H1 σ ρ _ _ rp p1 fun ys q us H2 p2 e2 n2 h2 t2 => ⟨_, _, rfl, ?_⟩
  have r2 := r1.own_new (ds := ys) (vs := us) j e2 n2 h2 (t2.mono (hide_le fun b z => ?_))
  · exact k.nx _ H2 _ _ p2 r2
  · rcases z with z | z
    · rcases oo_set b z with z | z
      · exact .inl (oo_or b z)
      · exact .inl (.inl (.inr z))
    · exact .inr z⟩
/-! ### ranges made into lists and tuples -/
abbrev WRg := Ro → (Int → Int → Prop) → Prop
class LRg (t : L2.St → Hp → (Int → Int → Hp → Prop) → Prop) (w : outParam WRg) : Prop where
  go : ∀ hs hid own H σ ρ (P : Int → Int → Prop) (Q : Int → Int → Hp → Prop), Rep hs hid own H σ ρ → w ρ P → (∀ i j H', P i j → Ex H H' → Q i j H') → t σ H Q
def wRg1 (a : WE) : WRg := fun ρ P => a ρ fun x => asI x fun n => P 0 n
def wRg2 (a b : WE) : WRg := fun ρ P => a ρ fun x => b ρ fun y => asI x fun i => asI y fun j => P i j
instance lrg1 {t : TE} {a : WE} [ha : LE t a] : LRg (tRg1 t) (wRg1 a) := ⟨fun hs hid own H σ ρ P Q r hw k => by
  refine ha.go hs hid own H σ ρ _ _ r hw fun s v H1 p e1 q => ?_
  unfold asI at p
  split at p
  · cases q
    exact ⟨_, rfl, k _ _ H1 p e1⟩
  · exact p.elim⟩
instance lrg2 {t u : TE} {a b : WE} [ha : LE t a] [hb : LE u b] : LRg (tRg2 t u) (wRg2 a b) := ⟨fun hs hid own H σ ρ P Q r hw k => by
  refine ha.go hs hid own H σ ρ _ _ r hw fun s v H1 p e1 q => ?_
  refine hb.go hs hid own H1 σ ρ _ _ (r.mono e1) p fun s2 v2 H2 p2 e2 q2 => ?_
  unfold asI at p2
  split at p2
  · split at p2
    · cases q
      cases q2
      exact ⟨_, _, rfl, rfl, k _ _ H2 p2 (e1.trans e2)⟩
    · exact p2.elim
  · exact p2.elim⟩
/-- the ints i .. j - 1 -/
def rgI (i j : Int) : List Int := (List.range (j - i).toNat).map fun (n : Nat) => i + (n : Int)
theorem rgV_eq (i j : Int) : rgV i j = (rgI i j).map V.int := by
  unfold rgV rgI
  rw [List.map_map]
  rfl
def smallR (i j : Int) : Prop := -1000000 ≤ i ∧ i ≤ 1000000 ∧ -1000000 ≤ j ∧ j ≤ 1000000
theorem smallR.ok {i j : Int} (h : smallR i j) : RgOk i j := by
  obtain ⟨a, b, c, d⟩ := h
  exact ⟨by omega, by omega, by omega, by omega, by omega⟩
def wTupRg (a : WRg) : WE := fun ρ P => a ρ fun i j => smallR i j ∧ P (.d (.tuple ((rgI i j).map .int)))
instance le_tupRg {t : L2.St → Hp → (Int → Int → Hp → Prop) → Prop} {a : WRg} [ha : LRg t a] : LE (tTupRgF t) (wTupRg a) := ⟨fun hs hid own H σ ρ P Q r hw k => by
  refine ha.go hs hid own H σ ρ _ _ r hw fun i j H1 p e1 => ⟨p.1.ok, fun H2 e2 => ?_⟩
  rw [rgV_eq]
  exact new_tup (fun q hq => ((r.mono e1).mono e2).notO hq) (dd_ints _ _) p.2 fun s v H' p e => k s v H' p ((e1.trans e2).trans e)⟩
def wfLstRg (a : WRg) : Ro → (List PyData → Prop) → Prop := fun ρ P => a ρ fun i j => smallR i j ∧ P ((rgI i j).map .int)
instance lf_lstRg {t : L2.St → Hp → (Int → Int → Hp → Prop) → Prop} {a : WRg} [ha : LRg t a] : LF (tLstRg t) (wfLstRg a) := ⟨fun hs hid own H σ ρ P Q r hw k => by
  refine ha.go hs hid own H σ ρ _ _ r hw fun i j H1 p e1 => ⟨p.1.ok, fun q hq => ?_⟩
  rw [rgV_eq]
  exact k _ _ _ _ p.2 (e1.trans (Evl.Ex.new hq)) (Evl.fresh_back e1 hq) upd_same (dd_ints _ _)⟩
instance le_lstRg {t : L2.St → Hp → (Int → Int → Hp → Prop) → Prop} {a : WRg} [ha : LRg t a] : LE (tLstRg t) (wOfF (wfLstRg a)) := le_ofF inferInstance
/-! ### products -/
def rRepF (K : PySem.W.Frag) : R2 := fun x y H Q => ∃ l k xs, x = .ref l ∧ y = .int k ∧ SqT K H l xs ∧ xs ≠ [] ∧ 2 ≤ k ∧ k ≤ 1000 ∧ xs.length ≤ 1000 ∧ newT (List.replicate k.toNat xs).flatten H Q
theorem op_repF {X : Cx} {K : PySem.W.Frag} (hK : X.K = K) : OpR X (binaryOp .Mult) (rRepF K) := by
  subst hK
  rintro pn s0 st G _ _ v u Q J rx ry ⟨l, k, xs, rfl, rfl, tx, some_, k2, k3, few, want⟩
  cases rx
  obtain ⟨t, rfl⟩ := ry
  obtain ⟨us, rel, ⟨⟨cls, dd, data, sl⟩, ho, hcl, n, hdt⟩, _⟩ := J.tuple tx
  simp only at hcl hdt
  subst hcl hdt
  have len : us.length = xs.length := rel.length.symm
  have full : us.toArray.isEmpty = false := by
    cases us with
    | nil => exact absurd (List.eq_nil_of_length_eq_zero len.symm) some_
    | cons a b => rfl
  have small : ((us.toArray.size : Nat) : Int) * k ≤ 1000000 := by
    have a1 : ((us.toArray.size : Nat) : Int) ≤ 1000 := by rw [List.size_toArray, len]; omega
    have a2 := Int.mul_le_mul_of_nonneg_right a1 (show 0 ≤ k by omega)
    omega
  have rows : k.toNat * xs.length ≤ 1000000 := Nat.le_trans (Nat.mul_le_mul (by omega : k.toNat ≤ 1000) few) (by decide)
  have fits : (List.replicate k.toNat us).flatten.length ≤ sizeLine := by
    rw [lm_len_rep_flat, len, sizeLine_eq]
    omega
  have d1 : (decide (k < -(2 ^ 63)) || decide (k ≥ 2 ^ 63)) = false := by simp; omega
  have d2 : (us.toArray.isEmpty || k == 1) = false := by simp [full]; omega
  have d3 : (decide (k ≤ 0) || us.toArray.isEmpty) = false := by simp [full]; omega
  have d4 : Builtin.Tuple.tupleTooMany (((us.toArray.size : Nat) : Int) * k) = false := by
    unfold Builtin.Tuple.tupleTooMany
    rw [sizeLine_eq]
    exact decide_eq_false (by omega)
  have made := tuple_mulW l us.toArray n dd sl k t d1 d2 d3 (by omega) d4 (by rw [size_rep, List.size_toArray]; exact fits)
  refine wpAny_binaryOp_repeat_ref (T := "tuple") (U := "int") (by decide) ⟨_, ho, rfl⟩ (fun s' => typeIs_int s' k t) noFill_tuple_mul F.fills_int_mul F.slot_int_rmul repeat_tuple F.slot_int_index.lookup ?_
  refine call_meets F.slot_int_rmul (typeIs_int s0 k t) F.entry_int_rmul (F.args_int_rmul_2 _ _) (int_rmul_tuple k t l us.toArray n dd sl) ⟨ho, rfl, ⟨_, ho, rfl⟩, ?_⟩
  refine call_meets F.slot_tuple_mul ⟨_, ho, rfl⟩ F.entry_tuple_mul (F.args_tuple_mul_2 _ _) made ⟨ho, ?_⟩
  rw [size_rep]
  exact laidT J (rel.rep k.toNat) (by rw [lm_len_rep_flat, sizeLine_eq]; omega) want
def rMul (K : PySem.W.Frag) : R2 := fun x y H Q => rI CMulW (fun i j => .int (i * j)) x y H Q ∨ rRep x y H Q ∨ rRepF K x y H Q
theorem ko_mul {X : Cx} {K : PySem.W.Frag} (hK : X.K = K) : OpR X (binaryOp .Mult) (rMul K) := by
  intro pn s0 st G x y v u Q J rx ry h
  rcases h with h | h | h
  · exact op_mulW pn s0 st G x y v u Q J rx ry h
  · exact op_rep pn s0 st G x y v u Q J rx ry h
  · exact op_repF hK pn s0 st G x y v u Q J rx ry h
theorem DdAll.rep {H : Hp} {vs : List V} {ds : List PyData} (h : DdAll H vs ds) : ∀ n : Nat, DdAll H (List.replicate n vs).flatten (List.replicate n ds).flatten
  | 0 => .nil
  | n + 1 => by
    rw [List.replicate_succ, List.replicate_succ, List.flatten_cons, List.flatten_cons]
    exact h.app (h.rep n)
def fMul : W2 := fun x y P => match x, y with
  | .d (.int i), .d (.int j) => CMulW i j ∧ P (.d (.int (i * j)))
  | .d (.list a), .d (.int k) => -1000000 ≤ k ∧ k ≤ 1000000 ∧ a.length * k.toNat ≤ 100000 ∧ P (.d (.list (List.replicate k.toNat a).flatten))
  | .d (.tuple a), .d (.int k) => a ≠ [] ∧ 2 ≤ k ∧ k ≤ 1000 ∧ a.length ≤ 1000 ∧ P (.d (.tuple (List.replicate k.toNat a).flatten))
  | _, _ => False
instance do_mul {K : PySem.W.Frag} : DO (rMul K) fMul := ⟨fun hid own H x y sx sy P Q ho rx ry hf k => by
  unfold fMul at hf
  split at hf
  · rw [rx.int, ry.int]
    exact .inl ⟨_, _, rfl, rfl, hf.1, k _ _ H hf.2 (Evl.Ex.refl H) (.int _)⟩
  · obtain ⟨a, vs, rfl, h1, t1⟩ := rx.list
    rw [ry.int]
    exact .inr (.inl ⟨a, _, vs, rfl, rfl, h1, by omega, by omega, by rw [t1.len]; exact Evl.sz_of hf.2.2.1, new_lst ho (t1.rep _) hf.2.2.2 k⟩)
  · obtain ⟨a, vs, rfl, h1, t1⟩ := rx.tuple
    rw [ry.int]
    refine .inr (.inr ⟨a, _, vs, rfl, rfl, (h1.ex hide_ex).sq, fun z => hf.1 ?_, hf.2.1, hf.2.2.1, by rw [t1.len]; exact hf.2.2.2.1, new_tup ho (t1.rep _) hf.2.2.2.2 k⟩)
    subst z
    cases t1
    rfl
  · exact hf.elim⟩
/-! ### small built-ins -/
def rInt1 : List V → Hp → VK → Prop := fun xs H Q => (∃ i, xs = [.int i] ∧ Q (.int i) H) ∨ ∃ k, xs = [.bl k] ∧ Q (.int (if k then 1 else 0)) H
theorem k_intX {X : Cx} : CallR X (.type "int") rInt1 := call_int1
def fInt : WC := fun ss P => match ss with
  | [.d (.int i)] => P (.d (.int i))
  | [.d (.bool b)] => P (.d (.int (if b then 1 else 0)))
  | _ => False
instance dc_int : DC rInt1 fInt := ⟨fun hid own H vs ss P Q ho q hf k => by
  unfold fInt at hf
  split at hf
  · obtain ⟨v, rfl, r⟩ := rb1 q
    rw [r.int]
    exact .inl ⟨_, rfl, k _ _ H hf (Evl.Ex.refl H) (.int _)⟩
  · obtain ⟨v, rfl, r⟩ := rb1 q
    rw [r.bl]
    exact .inr ⟨_, rfl, k _ _ H hf (Evl.Ex.refl H) (.int _)⟩
  · exact hf.elim⟩
def fRepr : WC := fun ss P => match ss with
  | [.d d] => Fit d ∧ P (.d (.str d.shown))
  | _ => False
instance dc_repr : DC rReprS fRepr := ⟨fun hid own H vs ss P Q ho q hf k => by
  unfold fRepr at hf
  split at hf
  · obtain ⟨v, rfl, r⟩ := rb1 q
    exact ⟨v, _, rfl, r.dd.dv, hf.1, k _ _ H hf.2 (Evl.Ex.refl H) (.str _)⟩
  · exact hf.elim⟩
/-- ints all of them -/
def allI : List PyData → Option (List Int)
  | [] => some []
  | .int i :: r => (allI r).map (i :: ·)
  | _ => none
theorem DdAll.ints {H : Hp} : ∀ {vs : List V} {ds : List PyData} {ns : List Int}, DdAll H vs ds → allI ds = some ns → vs = ns.map V.int
  | _, _, _, .nil, h => by cases h; rfl
  | _, d :: ds, _, .cons a t, h => by
    cases a with
    | int i =>
      unfold allI at h
      cases q : allI ds with
      | none => rw [q] at h; cases h
      | some es => rw [q] at h; cases h; rw [t.ints q]; rfl
    | _ => cases h
theorem allI_ints : ∀ ns : List Int, allI (ns.map PyData.int) = some ns
  | [] => rfl
  | n :: r => by rw [List.map_cons, allI, allI_ints r]; rfl
def asIs (ds : List PyData) (P : List Int → Prop) : Prop := match allI ds with
  | some ns => P ns
  | none => False
def rMinX (K : PySem.W.Frag) : List V → Hp → VK → Prop := fun vs H Q => rMin K vs H Q ∨ (∃ i j, vs = [.int i, .int j] ∧ Q (.int (if j < i then j else i)) H)
theorem k_minX {X : Cx} {K : PySem.W.Frag} (hK : X.K = K) (hc : X.calm = true) : CallR X (.builtin "min") (rMinX K) := by
  intro pn s0 st G xs us Q J r h
  rcases h with h | h
  · subst hK
    exact cr_min hc pn s0 st G xs us Q J r h
  · exact call_min2 hc pn s0 st G xs us Q J r h
def fMin : WC := fun ss P => match ss with
  | [.d (.list a)] => asIs a fun ns => ns ≠ [] ∧ ∀ m, m ∈ ns → (∀ y ∈ ns, m ≤ y) → P (.d (.int m))
  | [.d (.int i), .d (.int j)] => P (.d (.int (if j < i then j else i)))
  | _ => False
instance dc_min {K : PySem.W.Frag} : DC (rMinX K) fMin := ⟨fun hid own H vs ss P Q ho q hf k => by
  unfold fMin at hf
  split at hf
  · obtain ⟨v, rfl, r⟩ := rb1 q
    obtain ⟨a, vs, rfl, h1, t1⟩ := r.list
    unfold asIs at hf
    split at hf
    · rename_i ns hn
      have e := t1.ints hn
      subst e
      exact .inl ⟨a, ns, rfl, SqL.of h1, List.length_pos_iff.mpr hf.1, fun m hm hy => k _ _ H (hf.2 m hm hy) (Evl.Ex.refl H) (.int _)⟩
    · exact hf.elim
  · obtain ⟨v, v2, rfl, r, r2⟩ := rb2 q
    rw [r.int, r2.int]
    exact .inr ⟨_, _, rfl, k _ _ H hf (Evl.Ex.refl H) (.int _)⟩
  · exact hf.elim⟩
def fAll : WC := fun ss P => match ss with
  | [.d (.list a)] => ∃ bs : List Bool, a = bs.map .bool ∧ P (.d (.bool (bs.all id)))
  | _ => False
theorem DdAll.bools {H : Hp} : ∀ {vs : List V} {bs : List Bool}, DdAll H vs (bs.map .bool) → vs = bs.map V.bl
  | _, [], .nil => rfl
  | _, b :: r, .cons (.bl _) t => by rw [t.bools]; rfl
instance dc_all {K : PySem.W.Frag} : DC (rAllL K) fAll := ⟨fun hid own H vs ss P Q ho q hf k => by
  unfold fAll at hf
  split at hf
  · obtain ⟨v, rfl, r⟩ := rb1 q
    obtain ⟨a, vs, rfl, h1, t1⟩ := r.list
    obtain ⟨bs, rfl, hp⟩ := hf
    have e := t1.bools
    subst e
    exact ⟨a, bs, rfl, SqL.of h1, k _ _ H hp (Evl.Ex.refl H) (.bl _)⟩
  · exact hf.elim⟩
/-! ### x.index(y) of lists and tuples of data -/
def firstAt (ds : List PyData) (d : PyData) : Option Nat := ds.findIdx? fun e => PyData.eqv e d
theorem firstAt_spec {ds : List PyData} {d : PyData} {j : Nat} (h : firstAt ds d = some j) : ∃ hj : j < ds.length, PyData.eqv ds[j] d = true ∧ ∀ m (hm : m < j), PyData.eqv (ds[m]'(Nat.lt_trans hm hj)) d = false := by
  unfold firstAt at h
  rw [List.findIdx?_eq_some_iff_getElem] at h
  obtain ⟨h1, h2, h3⟩ := h
  exact ⟨h1, h2, fun m hm => by simpa using h3 m hm⟩
def fixm (ds : List PyData) (y : V) (H : Hp) (Q : VK) : Prop := ∃ d j, Dd H y d ∧ shp d = true ∧ shp (.list ds) = true ∧ firstAt ds d = some j ∧ Q (.int (j : Nat)) H
def tIxm (K : PySem.W.Frag) (to te : TE) : TE := fun σ H Q => to σ H fun x H1 => ∃ p, x = .ref p ∧ (((∃ xs, SqL K H1 p xs) ∧ te σ H1 fun y H2 => ∃ ds, Dd H2 x (.list ds) ∧ fixm ds y H2 Q) ∨ ((∃ xs, Ti H1 p xs) ∧ te σ H1 fun y H2 => ∃ ds, Dd H2 x (.tuple ds) ∧ fixm ds y H2 Q))
section
variable {X : Cx} {pn : List (Addr × Obj)} {st : L2.St} {G : Hp} {s0 : Shared} {Q : VK} {y : V} {u : Value} {p : Addr} {ds : List PyData}
theorem items_read (J : Inv X pn st G s0) {vs : List V} {its : List Value} (t : DdAll G vs ds) (c : PyData.canLayAll0 ds = true) (rv : Vals vs its) : ∃ as, ReadsAll s0.heap its ds as ∧ its.length = ds.length ∧ ∀ (m : Nat) (h1 : m < its.toArray.size) (h2 : m < ds.length), SeqAt.readOf s0.heap its.toArray[m] = ds[m] := by
  obtain ⟨as, ra⟩ := Dp.readsAll J ds _ its (t.dp c) rv
  have hm : its.map (SeqAt.readOf s0.heap) = ds := SeqAt.readsAll_map ds its as c ra
  refine ⟨as, ra, by rw [← hm, List.length_map], fun m h1 h2 => ?_⟩
  have h3 : m < its.length := by simpa using h1
  have e : (its.map (SeqAt.readOf s0.heap))[m]'(by rw [List.length_map]; exact h3) = ds[m] := by simp [hm]
  rw [List.getElem_map] at e
  simpa using e
theorem ixm_list (hu : X.A.units + 65 < cLine) (J : Inv X pn st G s0) (hx : Dd G (.ref p) (.list ds)) (ry : RelV y u) (h : fixm ds y G Q) : wpAny (model X.prog X.w) X.A (call (.builtin "list.index") [.ref p, u]) (EP X pn st Q) X.xe s0 := by
  obtain ⟨d, j, hy, h1, h2, h3, q⟩ := h
  obtain ⟨hj, e1, e2⟩ := firstAt_spec h3
  have c2 : (PyData.list ds).canLay0 = true := shp_lay h2
  refine mt_indexD hu pn s0 st G (.ref p) [y] (.ref p) [u] Q J rfl (.cons ry .nil) ⟨p, y, d, ds, j, ds[j], rfl, rfl, hx.dp c2, hy.dp (shp_lay h1), shp_sh h2, shp_sh h1, List.getElem?_eq_getElem hj, e1, fun m z hm hz => ?_, q⟩
  obtain ⟨hm2, rfl⟩ := List.getElem?_eq_some_iff.mp hz
  exact e2 m hm
theorem ixm_tup (hu : X.A.units + 65 < cLine) (J : Inv X pn st G s0) (hx : Dd G (.ref p) (.tuple ds)) (ry : RelV y u) (h : fixm ds y G Q) : wpAny (model X.prog X.w) X.A (call (.builtin "tuple.index") [.ref p, u]) (EP X pn st Q) X.xe s0 := by
  obtain ⟨d, j, hy, h1, h2, h3, q⟩ := h
  obtain ⟨hj, e1, e2⟩ := firstAt_spec h3
  have c2 : PyData.canLayAll0 ds = true := by simpa [PyData.canLay0] using shp_lay h2
  cases hx with
  | tup ht t =>
    obtain ⟨its, rv, ⟨⟨cls, dd, dt, sl⟩, ho, hc, n, hdat⟩, _⟩ := J.tuple (Ti.sq ht)
    simp only at hc hdat
    subst hc hdat
    obtain ⟨bs, rd⟩ := Dp.reads J d y u (hy.dp (shp_lay h1)) ry
    obtain ⟨as, ra, hl, hr⟩ := items_read J t c2 rv
    have hj2 : j < its.toArray.size := by rw [List.size_toArray, hl]; exact hj
    have dep : X.A.units + 1 + min (PyData.depthAll ds) d.depth < cLine := by
      have := shp_dep h1
      have := Nat.min_le_right (PyData.depthAll ds) d.depth
      omega
    refine call_meets PySem.F.slot_tuple_index ⟨_, ho, rfl⟩ PySem.F.entry_tuple_index (PySem.F.args_tuple_index_2 _ _)
      (TI.tuple_indexAt p its.toArray n dd sl u (fun w => PyData.eqv (SeqAt.readOf s0.heap w) d) j hj2 ?_ ?_) ⟨ho, SeqAt.items_eqAt (vs := its.toArray) (xs := ds) (as := as) ra rd c2 (shp_lay h1) dep, ⟨.int (j : Nat), G, J.tok _, ⟨_, rfl⟩, q⟩⟩
    · show PyData.eqv (SeqAt.readOf s0.heap its.toArray[j]) d = true
      rw [hr j hj2 hj]
      exact e1
    · intro m hm hmj
      show PyData.eqv (SeqAt.readOf s0.heap its.toArray[m]) d = false
      rw [hr m hm (Nat.lt_trans hmj hj)]
      exact e2 m hmj
end
theorem pe_ixm {X : Cx} {K : PySem.W.Frag} {o e : Expr} {to te : TE} {apos cpos : Pos} (hK : X.K = K) (hu : X.A.units + 65 < cLine) (ho : PE X o to) (he : PE X e te)
    (hbase : attributeBase o "index" X.env (eval o X.env) = eval o X.env := by rfl)
    (hfew : ((backTo cpos (starEach (e :: []) X.env)).all (fun x => !x.1) && (backToKw cpos (keywordEach [] X.env)).all (fun x => x.1.isSome) && decide ((e :: ([] : List Expr)).length + ([] : List Keyword).length + (if ([] : List Keyword).isEmpty then 0 else 1) < 30)) = true := by rfl)
    (hline : (apos.endLine == cpos.line) = true := by rfl) (h1 : starEach (e :: []) X.env = (false, eval e X.env) :: starEach [] X.env := by rfl) (h2 : (backTo cpos (starEach [] X.env)).any (·.1) = false := by rfl) :
    PE X (.Call (.Attribute o "index" apos) (e :: []) [] cpos) (tIxm K to te) := by
  subst hK
  have ha : PA X [e] (tCons te tNil) := pa_cons he pa_nil h1
  constructor
  intro pn s0 st G Q J want
  refine wpAny_Call_method_late hbase hfew hline rfl (thn (ho.run pn s0 st G _ J want) ?_)
  rintro v s1 ⟨x, G1, J1, rx, p, rfl, ⟨⟨xs, hq⟩, k⟩ | ⟨⟨xs, o1, hp, hdn⟩, k⟩⟩
  · obtain ⟨t1, t2⟩ := tyV_is (T := "list") J1 rx (.inl ⟨rfl, _, hq⟩)
    cases rx
    refine ⟨"list", _, PySem.F.plainAttrs_list, PySem.F.slot_list_index, PySem.F.type_list_index, t1, t2, ?_⟩
    have run := ha.run cpos pn s1 st G1 (fun vs G2 => match vs with | [y] => ∃ ds, Dd G2 (.ref p) (.list ds) ∧ fixm ds y G2 Q | _ => False) J1 k
    rw [h1] at run ⊢
    refine Calls.callWith_builtin (by show (false || (backTo cpos (starEach [] X.env)).any (·.1)) = false; rw [h2]; rfl) (Calls.evalArgs_plain (thn run ?_))
    rintro us s2 ⟨vs, G2, J2, rv, f⟩
    match vs, rv, f with
    | [y], rv, ⟨ds, hx, f⟩ =>
      obtain ⟨u, rfl, ry⟩ := vals1 rv
      exact ixm_list hu J2 hx ry f
  · cases rx
    obtain ⟨hg, _, its, _, o2, hg2, hc, _⟩ := J1.hok p _ hp
    obtain rfl : o1 = o2 := Option.some.inj (hg.symm.trans hg2)
    refine ⟨"tuple", _, PySem.F.plainAttrs_tuple, PySem.F.slot_tuple_index, PySem.F.type_tuple_index, ⟨_, hg, hc⟩, ?_, ?_⟩
    · rintro a ⟨⟩
      exact ⟨_, hg, hdn⟩
    · have run := ha.run cpos pn s1 st G1 (fun vs G2 => match vs with | [y] => ∃ ds, Dd G2 (.ref p) (.tuple ds) ∧ fixm ds y G2 Q | _ => False) J1 k
      rw [h1] at run ⊢
      refine Calls.callWith_builtin (by show (false || (backTo cpos (starEach [] X.env)).any (·.1)) = false; rw [h2]; rfl) (Calls.evalArgs_plain (thn run ?_))
      rintro us s2 ⟨vs, G2, J2, rv, f⟩
      match vs, rv, f with
      | [y], rv, ⟨ds, hx, f⟩ =>
        obtain ⟨u, rfl, ry⟩ := vals1 rv
        exact ixm_tup hu J2 hx ry f
def asSeq (x : SV) (P : List PyData → Prop) : Prop := match x with
  | .d (.list ds) => P ds
  | .d (.tuple ds) => P ds
  | _ => False
def wIxm (a b : WE) : WE := fun ρ P => a ρ fun x => asSeq x fun ds => b ρ fun y => asD y fun d => shp d = true ∧ shp (.list ds) = true ∧ ∃ j, firstAt ds d = some j ∧ P (.d (.int (j : Nat)))
instance le_ixm {K : PySem.W.Frag} {to te : TE} {a b : WE} [ha : LB to a] [hb : LB te b] : LE (tIxm K to te) (wIxm a b) := ⟨fun hs hid own H σ ρ P Q r hw k => by
  refine ha.go hs hid own H σ ρ _ _ r hw fun sx x H1 hx e1 rx => ?_
  have fin : ∀ ds sy y H2, (asD sy fun d => shp d = true ∧ shp (.list ds) = true ∧ ∃ j, firstAt ds d = some j ∧ P (.d (.int (j : Nat)))) → Ex H1 H2 → Rb hid own H2 y sy → fixm ds y H2 Q := fun ds sy y H2 p e2 ry => by
    unfold asD at p
    split at p
    · obtain ⟨h1, h2, j, h3, h4⟩ := p
      exact ⟨_, j, ry.dd, h1, h2, h3, k _ _ H2 h4 (e1.trans e2) (.int _)⟩
    · exact p.elim
  unfold asSeq at hx
  split at hx
  · obtain ⟨p, vs, rfl, h1, t1⟩ := rx.list
    exact ⟨p, rfl, .inl ⟨⟨_, SqL.of h1⟩, hb.go hs hid own H1 σ ρ _ _ (r.mono e1) hx fun sy y H2 hy e2 ry => ⟨_, (rx.mono e2).dd, fin _ sy y H2 hy e2 ry⟩⟩⟩
  · obtain ⟨p, vs, rfl, h1, t1⟩ := rx.tuple
    exact ⟨p, rfl, .inr ⟨⟨_, h1.ex hide_ex⟩, hb.go hs hid own H1 σ ρ _ _ (r.mono e1) hx fun sy y H2 hy e2 ry => ⟨_, (rx.mono e2).dd, fin _ sy y H2 hy e2 ry⟩⟩⟩
  · exact hx.elim⟩
theorem Room.u65 {k : Nat} {A : Around} (h : Room k A) : A.units + 65 < cLine := by
  have := h.un
  omega
/-! ### xs[::-1] -/
def tRevX (K : PySem.W.Frag) (te : TE) : TE := fun σ H Q => te σ H fun x H1 => ∃ a xs, x = .ref a ∧ SqL K H1 a xs ∧ ∀ p, H1 p = none → Q (.ref p) (upd H1 p (.lst xs.reverse))
theorem pe_revQ {X : Cx} {K : PySem.W.Frag} {e : Expr} {te : TE} {k : Nat} {p1 p2 p3 pos : Pos} (hK : X.K = K) (he : PE X e te) : PE X (.Subscript e (.Slice none none (some (.UnaryOp .USub (.Constant (.int 1) k p1) p2)) p3) pos) (tRevX K te) := by
  subst hK
  exact pe_revL he
theorem DdAll.rev {H : Hp} : ∀ {vs : List V} {ds : List PyData}, DdAll H vs ds → DdAll H vs.reverse ds.reverse
  | _, _, .nil => .nil
  | _, _, .cons a t => by
    rw [List.reverse_cons, List.reverse_cons]
    exact t.rev.app (.cons a .nil)
def asL (x : SV) (P : List PyData → Prop) : Prop := match x with
  | .d (.list ds) => P ds
  | _ => False
def wRev (a : WE) : WE := fun ρ P => a ρ fun x => asL x fun ds => P (.d (.list ds.reverse))
instance le_rev {K : PySem.W.Frag} {t : TE} {a : WE} [ha : LB t a] : LE (tRevX K t) (wRev a) := ⟨fun hs hid own H σ ρ P Q r hw k => by
  refine ha.go hs hid own H σ ρ _ _ r hw fun sx x H1 hx e1 rx => ?_
  unfold asL at hx
  split at hx
  · obtain ⟨p, vs, rfl, h1, t1⟩ := rx.list
    exact ⟨p, vs, rfl, SqL.of h1, new_lst (fun p hp => (r.mono e1).notO hp) t1.rev hx fun s v H' p e => k s v H' p (e1.trans e)⟩
  · exact hx.elim⟩
/-! ### dicts written out -/
def wDnew : WE := fun _ P => P (.d (.dict []))
instance le_dnew : LE tDNewK wDnew := ⟨fun hs hid own H σ ρ P Q r hw k => fun p hp => k _ _ _ hw (Evl.Ex.new hp) (.dic ((hide_of (r.notO hp)).trans upd_same) .nil)⟩
/-- one pair: {'a': e} with a text for the key -/
def wDisp1 (z : Str) (e : WE) : WE := fun ρ P => e ρ fun y => asD y fun d => P (.d (.dict [(.str z, d)]))
/-! ### xs[i] = e, found.append(rest.pop(k)) -/
def wPut (i : Nat) (a b : WE) : WS := fun E ρ => gown ρ[i]? fun ds => a ρ fun y => asD y fun d => b ρ fun n => asI n fun j => ∃ m, ixN ds.length j = some m ∧ E.nx (ρ.set i (some (.own (ds.set m d))))
theorem DdAll.put {H : Hp} : ∀ {vs : List V} {ds : List PyData} {v : V} {d : PyData} (n : Nat), DdAll H vs ds → Dd H v d → DdAll H (vs.set n v) (ds.set n d)
  | _, _, _, _, _, .nil, _ => .nil
  | _, _, _, _, 0, .cons _ t, h => .cons h t
  | _, _, _, _, n + 1, .cons a t, h => .cons a (t.put n h)
instance (priority := 2000) ls_put {i : Nat} {ta tb : TE} {a b : WE} [ha : LE ta a] [hb : LE tb b] : LS (tAsg ta (gSub (tVar i) tb rSetL)) (wPut i a b) := ⟨fun hs hid D E own H σ ρ k r hw => by
  obtain ⟨ds, p, vs, hw, hds, h2, h1, h3, h4⟩ := gown_get r hw
  refine ha.go hs hid own H σ ρ _ _ r hw fun s y H1 p1 e1 q1 => ⟨_, h1, ?_⟩
  unfold asD at p1
  split at p1
  · refine hb.go hs hid own H1 σ ρ _ _ (r.mono e1) p1 fun s2 n H2 p2 e2 q2 => ?_
    unfold asI at p2
    split at p2
    · cases q2
      obtain ⟨m, hm, pn⟩ := p2
      have r2 := (r.mono e1).mono e2
      refine ⟨p, vs, _, m, rfl, rfl, e2 _ _ (e1 _ _ h3), by rw [h4.len]; exact hm, ?_⟩
      exact k.nx own _ _ _ pn (r2.mut h2 h1 (((h4.mono (hide_mono e1)).mono (hide_mono e2)).put m (Dd.mono (hide_mono e2) q1)))
    · exact p2.elim
  · exact p1.elim⟩
def wAppPop (i j : Nat) (n : WE) : WS := fun E ρ => i ≠ j ∧ gown ρ[i]? fun ds => gown ρ[j]? fun es => ds.length < 100000 ∧ n ρ fun x => asI x fun m => 0 ≤ m ∧ m ≤ 1000000 ∧ ∃ d, es[m.toNat]? = some d ∧ E.nx ((ρ.set j (some (.own (es.eraseIdx m.toNat)))).set i (some (.own (ds ++ [d]))))
theorem DdAll.erase {H : Hp} : ∀ {vs : List V} {ds : List PyData} (n : Nat), DdAll H vs ds → DdAll H (vs.eraseIdx n) (ds.eraseIdx n)
  | _, _, _, .nil => .nil
  | _, _, 0, .cons _ t => t
  | _, _, n + 1, .cons a t => .cons a (t.erase n)
instance (priority := 2000) ls_appPop {K : PySem.W.Frag} {i j : Nat} {t : TE} {n : WE} [hn : LE t n] : LS (tDrop (tBM K "list" rAppend (tVar i) (tCons (tBM K "list" rPopAt (tVar j) (tCons t tNil)) tNil))) (wAppPop i j n) := ⟨fun hs hid D E own H σ ρ k r hw => by
  obtain ⟨ne, hw⟩ := hw
  obtain ⟨ds, p, vs, hw, hds, o1, v1, h1, t1⟩ := gown_get r hw
  obtain ⟨es, q, ws, ⟨few, hw⟩, hes, o2, v2, h2, t2⟩ := gown_get r hw
  refine ⟨_, v1, .inl ⟨rfl, _, SqL.of h1⟩, _, v2, .inl ⟨rfl, _, SqL.of h2⟩, hn.go hs hid own H σ ρ _ _ r hw fun s x H1 p1 e1 q1 => ?_⟩
  unfold asI at p1
  split at p1
  · cases q1
    rename_i m
    obtain ⟨m0, m1, d, hd, pn⟩ := p1
    have r1 := r.mono e1
    obtain ⟨y, hy, dy⟩ := (t2.mono (hide_mono e1)).getD hd
    have lt : m.toNat < ws.length := (List.getElem?_eq_some_iff.mp hy).1
    have sx : seqIndex? m ws.length = some m.toNat := by
      unfold seqIndex?
      simp only [show ¬ m < 0 by omega, if_false]
      simp
      omega
    have npq : p ≠ q := fun z => ne (Ix.s.inj (r.inj (.s i) (.s j) p o1 (by rw [z]; exact o2)))
    refine ⟨q, ws, m, m.toNat, y, rfl, rfl, e1 _ _ h2, by omega, by omega, sx, hy, ?_⟩
    have r2 := r1.mut o2 v2 ((t2.mono (hide_mono e1)).erase m.toNat)
    have hB : Ex (Bh hid own H1) (Bh hid own (upd H1 q (.lst (ws.eraseIdx m.toNat)))) := hide_upd (.inr ⟨.s j, o2⟩)
    refine ⟨p, vs, y, rfl, rfl, ?_, by rw [t1.len]; exact Evl.sz_lt few, ?_⟩
    · rw [upd_ne npq]; exact e1 _ _ h1
    · exact k.nx own _ _ _ pn (r2.mut o1 v1 (((t1.mono (hide_mono e1)).app (.cons dy .nil)).mono hB))
  · exact p1.elim⟩
/-! ### if-expressions whose ways may raise -/
def wIfXE (c : WT) (a b : PX → WE) : PX → WE := fun xp ρ P => c ρ fun t => if t = true then a xp ρ P else b xp ρ P
instance (priority := 200) lex_if {E : XK} {c : TT} {t u : TE} {wc : WT} {a b : PX → WE} [hc : LT c wc] [ha : LEX E t a] [hb : LEX E u b] : LEX E (tIf c t u) (wIfXE wc a b) := ⟨fun hs hid own H σ ρ xp P Q r x hw k => by
  refine hc.go hs hid own H σ ρ _ _ r hw fun c H' p e => ?_
  have r' := r.mono e
  cases c with
  | true => exact iteT (ha.go hs hid own H' σ ρ xp P Q r' x (by simpa using p) fun s v H2 pb e2 => k s v H2 pb (e.trans e2))
  | false => exact iteF (hb.go hs hid own H' σ ρ xp P Q r' x (by simpa using p) fun s v H2 pb e2 => k s v H2 pb (e.trans e2))⟩
/-! ### with lists of one's own among the arguments -/
theorem pe_calB {X : Cx} {k : Nat} {x : Str} {ps : List Str} {sp : Sp} {e : Expr} {es : List Expr} {t : TA} {p pos : Pos} (C : Cal X.prog X.w X.K X.mg X.base k x ps sp) (hr : Room k X.A) (hg : Gl X x) (ha : PA X (e :: es) t)
    (hdb : (x == ("__debug__" : Str)) = false := by decide) (h1 : starEach (e :: es) X.env = (false, eval e X.env) :: starEach es X.env := by rfl) (h2 : (backTo pos (starEach es X.env)).any (·.1) = false := by rfl) : PE X (.Call (.Name x p) (e :: es) [] pos) (tCallB sp t) := pe_cal C hr hg ha hdb h1 h2
/-! ### a def that shows data -/
theorem okG {P : Program} {w : World} {K : PySem.W.Frag} {mg : Str → Option Value} {base : Heap} {x qual : Str} {st : Stmt} {f : Addr} {fd : FuncData} {N ps : List Str} {k : Nat} {R : RR} (F : Fun K x qual st f fd) (S : FnScope N ps (defScope st))
    (hbody : ∀ (cdv : Value) (A : Around) (outer : List Env) (s : Shared) (H : Hp) (E : XK), Room k (A.deeper (envOfC qual (defScope st) s.heap.objs.size f cdv)) → (A.deeper (envOfC qual (defScope st) s.heap.objs.size f cdv)).guards = some [] →
      ∃ t w', PSs (cxOf CX0 P w K mg base N qual (defScope st) f cdv A outer s H E).nox (defBody st) t ∧ LS t w' ∧ ∀ ss Pd, ss.length = ps.length → R ss Pd → w' { nx := fun _ => Pd (.d .none), rt := Pd } (ss.map some ++ List.replicate (N.length - ss.length) none)) :
    FnG P w K mg base (k + 1) f fd ps (spQ ps.length R) := by
  refine fnG F S (fun vs H Q E h => ?_) (fun cdv A outer s H vs Q E hr hg h => ?_)
  · obtain ⟨hid, ss, P, h1, _, h2, _⟩ := h
    rw [h2.len]; exact h1
  · obtain ⟨hid, ss, Pd, h1, ho, h2, hR, kk⟩ := h
    obtain ⟨t, w', ht, hl, hw⟩ := hbody cdv A outer s H E hr hg
    refine ⟨t, ht, hl.go H hid _ { nx := fun _ => Pd (.d .none), rt := Pd } (fun _ => none) H _ _ ⟨fun own H' σ ρ p r => ?_, fun own H' σ ρ p r => p.elim, fun own H' σ ρ p r => p.elim, fun s v H' p e q => kk s v H' p e q⟩ (start_rep ho h2) (hw ss Pd h1 hR)⟩
    exact kk (.d .none) .non H' p r.ex .non
end Lr

namespace Lr
open PySem L2 PySem.Spec PyProof.Rows
/-! ### an error in hand -/
def catM (er : Addr) (d : Option Addr) (x : XV) : Mo := ⟨fun H v => v = .ref er ∧ XRel H d x, fun e h => ⟨h.1, h.2.mono e⟩⟩
def clsM (cs : List Addr) : Mo := ⟨fun H v => ∃ p, v = .ref p ∧ Ti H p (cs.map V.ref), fun e h => by obtain ⟨p, h1, h2⟩ := h; exact ⟨p, h1, h2.ex e⟩⟩
class LCs (t : TA) (cs : outParam (List Addr)) : Prop where
  go : ∀ σ H (Q : List V → Hp → Prop), Q (cs.map V.ref) H → t σ H Q
instance lcs_one {c : Addr} : LCs (tCons (tC (.ref c)) tNil) [c] := ⟨fun σ H Q q => q⟩
instance lcs_cons {c : Addr} {t : TA} {cs : List Addr} [h : LCs t cs] : LCs (tCons (tC (.ref c)) t) (c :: cs) := ⟨fun σ H Q q => h.go σ H _ q⟩
def wClsT (cs : List Addr) : WE := fun _ P => cs.length ≤ 100 ∧ P (.o (clsM cs))
instance (priority := 2000) le_clsT {t : TA} {cs : List Addr} [h : LCs t cs] : LE (tTupF t) (wClsT cs) := ⟨fun hs hid own H σ ρ P Q r hw k => by
  refine h.go σ H _ ⟨by rw [List.length_map]; exact Evl.sz_of (by have := hw.1; omega), fun p o hp hd => ?_⟩
  exact k _ _ _ hw.2 (Evl.Ex.new hp) ⟨p, rfl, o, (hide_of (r.notO hp)).trans upd_same, hd⟩⟩
def rIsX (K : PySem.W.Frag) (a : Addr) (cls : Value) (d : Option Addr) : List V → Hp → VK → Prop := fun xs H Q => ∃ C y b, xs = [.ref a, y] ∧ cls = .ref C ∧ IsC K C ∧ (∀ dd, d = some dd → ∃ o, H dd = some o) ∧
  ((∃ c, y = .ref c ∧ PySem.W.kitOne K (.ref C) (.ref c) = some b) ∨ (∃ n, y = .ty n ∧ PySem.W.kitOne K (.ref C) (.type n) = some b) ∨ (∃ (p : Addr) (cs : List Addr), y = .ref p ∧ SqT K H p (cs.map V.ref) ∧ PySem.W.kitAny K (.ref C) (cs.map Value.ref) = some b)) ∧ Q (.bl b) H
theorem vals_refs : ∀ {cs : List Addr} {us : List Value}, Vals (cs.map V.ref) us → us = cs.map Value.ref
  | [], _, .nil => rfl
  | c :: cs, _, .cons r t => by cases r; rw [vals_refs t]; rfl
theorem k_isX {X : Cx} {a : Addr} {oe : Obj} {cls : Value} {d : Option Addr} {pn : List (Addr × Obj)} (hz : Zc cls d oe) (hf : ∃ vs, oe.data = .fields vs) : CallR (X.suite a ((a, oe) :: pn)) (.builtin "isinstance") (rIsX X.K a cls d) := by
  rintro pins s0 st G xs us Q J rel ⟨C, y, b, rfl, rfl, T, hd, way, q⟩
  have there := (J.pin (a, oe) (List.mem_append_left _ (List.mem_cons_self))).1
  have nc : PySem.W.notCls oe = true := by obtain ⟨vs, e⟩ := hf; unfold PySem.W.notCls; rw [e]
  obtain ⟨od, inst⟩ : ∃ od, PySem.W.InstAt s0.heap a oe C od := by
    cases e : d with
    | none => exact ⟨none, there, hz.1, nc, by rw [hz.2, e]; trivial⟩
    | some dd =>
      obtain ⟨o, ho⟩ := hd dd e
      obtain ⟨u, hu⟩ := objOk_get (J.hok dd o ho)
      exact ⟨some u, there, hz.1, nc, by rw [hz.2, e]; exact hu⟩
  have Z := PySem.W.kitx_exc (x := a) (ox := oe) (od := od) T.cl T.ga T.gg T.sb T.ca T.sp T.tk T.mr
  cases rel with
  | cons r1 rest =>
    cases rest with
    | cons r2 rest =>
      cases rest
      cases r1
      have fin : ∀ tk, EP (X.suite a ((a, oe) :: pn)) pins st Q (.bool b) { s0 with toks := tk } := fun tk => ⟨.bl b, G, J.kept (t' := tk) fun _ _ z => z, rfl, q⟩
      rcases way with ⟨c, rfl, ek⟩ | ⟨n, rfl, ek⟩ | ⟨p, cs, rfl, sq, ek⟩
      · cases r2
        exact PySem.W.kia_one Z J.kIn inst ek (fun z => nomatch z) fin
      · cases r2
        exact PySem.W.kia_one Z J.kIn inst ek (fun z => nomatch z) fin
      · cases r2
        obtain ⟨its, rv, ⟨⟨cl, dd, dt, sl⟩, ho, hc, n, hdat⟩, _⟩ := J.tuple sq
        simp only at hc hdat
        subst hc hdat
        have e := vals_refs rv
        subst e
        exact PySem.W.kia_tup Z J.kIn inst ho ek (fun z => nomatch z) fin
def fIsX (K : PySem.W.Frag) (a : Addr) (cls : Value) (d : Option Addr) : WC := fun ss P => ∃ x b, cls = .ref x.C ∧ IsC K x.C ∧ ((∃ c, ss = [.o (catM a d x), .ref c] ∧ PySem.W.kitOne K (.ref x.C) (.ref c) = some b) ∨ (∃ n, ss = [.o (catM a d x), .ty n] ∧ PySem.W.kitOne K (.ref x.C) (.type n) = some b) ∨ (∃ cs, ss = [.o (catM a d x), .o (clsM cs)] ∧ PySem.W.kitAny K (.ref x.C) (cs.map Value.ref) = some b)) ∧ P (.d (.bool b))
theorem XRel.there {B : Hp} {d : Option Addr} {x : XV} (h : XRel B d x) : ∀ dd, d = some dd → ∃ o, B dd = some o := fun dd e => by
  unfold XRel at h
  split at h
  · rw [h] at e; cases e
  · obtain ⟨dx, v, h1, h2, _⟩ := h
    rw [h1] at e
    cases e
    exact ⟨_, h2⟩
theorem rb_o {hid own H v m} (h : Rb hid own H v (.o m)) : m.R (Bh hid own H) v := by
  rcases h with h | ⟨_, _, z, _⟩
  · exact h
  · cases z
instance dc_isX {K : PySem.W.Frag} {a : Addr} {cls : Value} {d : Option Addr} : DC (rIsX K a cls d) (fIsX K a cls d) := ⟨fun hid own H vs ss P Q ho q hf k => by
  obtain ⟨x, b, hc, T, way, hp⟩ := hf
  have fin := k _ (.bl b) H hp (Evl.Ex.refl H) (.bl _)
  rcases way with ⟨c, rfl, ek⟩ | ⟨n, rfl, ek⟩ | ⟨cs, rfl, ek⟩
  · obtain ⟨v, v2, rfl, r1, r2⟩ := rb2 q
    obtain ⟨rfl, hx⟩ := rb_o r1
    have e2 : v2 = .ref c := by
      rcases r2 with r2 | ⟨_, _, z, _⟩
      · exact r2
      · cases z
    exact ⟨x.C, v2, b, rfl, hc, T, (hx.mono hide_ex).there, .inl ⟨c, e2, ek⟩, fin⟩
  · obtain ⟨v, v2, rfl, r1, r2⟩ := rb2 q
    obtain ⟨rfl, hx⟩ := rb_o r1
    have e2 : v2 = .ty n := by
      rcases r2 with r2 | ⟨_, _, z, _⟩
      · exact r2
      · cases z
    exact ⟨x.C, v2, b, rfl, hc, T, (hx.mono hide_ex).there, .inr (.inl ⟨n, e2, ek⟩), fin⟩
  · obtain ⟨v, v2, rfl, r1, r2⟩ := rb2 q
    obtain ⟨rfl, hx⟩ := rb_o r1
    obtain ⟨p, rfl, ht⟩ := rb_o r2
    exact ⟨x.C, _, b, rfl, hc, T, (hx.mono hide_ex).there, .inr (.inr ⟨p, cs, rfl, (ht.ex hide_ex).sq, ek⟩), fin⟩⟩
/-- e.f -/
def wXf (a : Addr) (cls : Value) (d : Option Addr) (C : Addr) (f : Str) (w : WE) : WE := fun ρ P => w ρ fun s => ∃ x y, s = .o (catM a d x) ∧ cls = .ref C ∧ x.f = some (f, y) ∧ P (.d y)
instance le_xf {a : Addr} {cls : Value} {d : Option Addr} {C : Addr} {f : Str} {t : TE} {w : WE} [h : LE t w] : LE (tXf a cls d C f t) (wXf a cls d C f w) := ⟨fun hs hid own H σ ρ P Q r hw k => by
  refine h.go hs hid own H σ ρ _ _ r hw fun s v H1 p e1 q => ?_
  obtain ⟨x, y, rfl, hc, hf, hp⟩ := p
  obtain ⟨rfl, hx⟩ := q
  unfold XRel at hx
  rw [hf] at hx
  obtain ⟨dx, u, hd, hd2, hy⟩ := hx
  exact ⟨rfl, hc, dx, _, u, hd, hide_ex _ _ hd2, by simp [List.lookup], k _ _ H1 hp e1 hy⟩⟩
/-! ### try: x = f(..), except C as e: .. -/
def tTry (K : PySem.W.Frag) (c : Value) (i j : Nat) (sp : Sp) (ta : TA) (ts : Addr → Value → Option Addr → TS) (Wout : WX) : TS := fun D σ H => tAsg (tCallS sp (L2.WE (wAs K c i ts Wout D)) ta) (gName j) D σ H
theorem ps_tryQ {X : Cx} {x n : Str} {c : Value} {i j : Nat} {body rest : List Stmt} {b0 : Stmt} {np pos p2 : Pos} {sp : Sp} {ta : TA} {ts : Addr → Value → Option Addr → TS} (own : X.stack = X.env :: X.outer ∧ X.env.frame = some X.env.locals ∧ X.N.Nodup) (at_ : X.N[i]? = some n ∧ X.env.kindOf n = some .local) (nm : Names X x c)
    (go : ∀ (W : WX) (pn : List (Addr × Obj)) (xe : Value → Shared → Prop), Takes (X.tr pn xe) W → PSs (X.tr pn xe) body (tAsg (tCallS sp (L2.WE W) ta) (gName j)))
    (su : ∀ (er : Addr) (oe : Obj) (cls : Value) (d : Option Addr) (pn : List (Addr × Obj)), Zc cls d oe → (∃ vs, oe.data = .fields vs) → PSs (X.suite er ((er, oe) :: pn)) (b0 :: rest) (ts er cls d)) :
    PS X (.Try body [.ExceptHandler (some (.Name x np)) (some n) (b0 :: rest) p2] [] [] pos) (tTry X.K c i j sp ta ts fun _ _ _ _ => False) :=
  ps_try_as (tb := fun W => tAsg (tCallS sp (L2.WE W) ta) (gName j)) own.1 own.2.1 own.2.2 at_.1 at_.2 nm takes0 (fun W pn xe tk _ => go W pn xe tk) su
theorem pe_calS {X : Cx} {k : Nat} {x : Str} {ps : List Str} {sp : Sp} {E : L2.St → XK} {e : Expr} {es : List Expr} {t : TA} {p pos : Pos} (C : CalX X.prog X.w X.K X.mg X.base k x ps sp) (hr : Room k X.A) (hx : ∀ σ, PassesAt (L2.CX X.prog X.w) X σ (E σ)) (hg : Gl X x) (ha : PA X (e :: es) t)
    (hdb : (x == ("__debug__" : Str)) = false := by decide) (h1 : starEach (e :: es) X.env = (false, eval e X.env) :: starEach es X.env := by rfl) (h2 : (backTo pos (starEach es X.env)).any (·.1) = false := by rfl) : PE X (.Call (.Name x p) (e :: es) [] pos) (tCallS sp E t) := by
  obtain ⟨f, fd, G, m, kp, b⟩ := C
  exact pe_callS G hr hg m kp b hx ha hdb h1 h2
theorem Rep.gone {hs : Hp} {hid : Addr → Prop} {own : Ix → Option Addr} {H : Hp} {σ : L2.St} {ρ : Ro} (r : Rep hs hid own H σ ρ) (i : Nat) : Rep hs hid own H (σ.set i none) (ρ.set i none) := by
  refine ⟨r.ex, r.occ, r.new, r.inj, by rw [List.length_set, List.length_set]; exact r.len, fun j s h => ?_⟩
  rw [List.getElem?_set] at h ⊢
  by_cases hi : i = j
  · rw [if_pos hi] at h
    split at h <;> cases h
  · rw [if_neg hi] at h ⊢
    exact r.get j s h
def wTry (K : PySem.W.Frag) (c : Value) (i j n : Nat) (R : RX) (a : WA) (ws : Addr → Value → Option Addr → WS) : WS := fun E ρ => a ρ fun ss => ss.length = n ∧ R ss (fun s => E.nx (ρ.set j (some s))) fun x =>
  PySem.W.exmOne K (.ref x.C) c = some true ∧ ∀ er d, ws er (.ref x.C) d { nx := fun ρ' => E.nx (ρ'.set i none), rt := E.rt, bk := fun ρ' => E.bk (ρ'.set i none), ct := fun ρ' => E.ct (ρ'.set i none) } (ρ.set i (some (.o (catM er d x))))
instance ls_try {K : PySem.W.Frag} {c : Value} {i j n : Nat} {R : RX} {ta : TA} {a : WA} {ts : Addr → Value → Option Addr → TS} {ws : Addr → Value → Option Addr → WS} {Wout : WX} [ha : LA ta a] [hs : ∀ er cls d, LS (ts er cls d) (ws er cls d)] : LS (tTry K c i j (spX n R) ta ts Wout) (wTry K c i j n R a ws) := ⟨fun hs0 hid D E own H σ ρ k r hw => by
  refine ha.go hs0 hid own H σ ρ _ _ r hw fun ss vs H1 p e1 q => ?_
  have r1 := r.mono e1
  refine ⟨Oo hid own, ss, _, _, p.1, r1.occ, q, p.2, fun s v H' p e q => k.nx own H' _ _ p ((r1.mono e).put j q), fun x d H' px e hx => ⟨true, px.1, fun _ er her => ?_, fun z => nomatch z⟩⟩
  have r2 := r1.mono e
  refine (hs er (.ref x.C) d).go hs0 hid _ { nx := fun ρ' => E.nx (ρ'.set i none), rt := E.rt, bk := fun ρ' => E.bk (ρ'.set i none), ct := fun ρ' => E.ct (ρ'.set i none) } own H' _ _ ⟨fun own H σ ρ p r => k.nx own H _ _ p (r.gone i), fun own H σ ρ p r => k.bk own H _ _ p (r.gone i), fun own H σ ρ p r => k.ct own H _ _ p (r.gone i), k.rt⟩ (r2.put i (s := .o (catM er d x)) ⟨rfl, hx⟩) (px.2 er d)⟩
theorem u65s {k : Nat} {A A' : Around} (h : Room k A) (e : A'.units = A.units) : A'.units + 65 < cLine := by rw [e]; exact Room.u65 h
/-! ### xs.count(y) -/
def tCnt (K : PySem.W.Frag) (to te : TE) : TE := fun σ H Q => to σ H fun x H1 => ∃ p, x = .ref p ∧ (∃ xs, SqL K H1 p xs) ∧ te σ H1 fun y H2 => ∃ ds d, Dd H2 x (.list ds) ∧ Dd H2 y d ∧ shp d = true ∧ shp (.list ds) = true ∧ Q (.int (ds.countP fun e => PyData.eqv e d : Nat)) H2
theorem count_read {h : Heap} {d : PyData} : ∀ {its : List Value} {ds : List PyData}, its.map (SeqAt.readOf h) = ds → its.countP (fun w => PyData.eqv (SeqAt.readOf h w) d) = ds.countP fun e => PyData.eqv e d := fun {its ds} e => by
  rw [← e, List.countP_map]
  rfl
theorem pe_countX {X : Cx} {K : PySem.W.Frag} {o e : Expr} {to te : TE} {apos cpos : Pos} (hK : X.K = K) (hu : X.A.units + 65 < cLine) (ho : PE X o to) (he : PE X e te)
    (hbase : attributeBase o "count" X.env (eval o X.env) = eval o X.env := by rfl)
    (hfew : ((backTo cpos (starEach (e :: []) X.env)).all (fun x => !x.1) && (backToKw cpos (keywordEach [] X.env)).all (fun x => x.1.isSome) && decide ((e :: ([] : List Expr)).length + ([] : List Keyword).length + (if ([] : List Keyword).isEmpty then 0 else 1) < 30)) = true := by rfl)
    (hline : (apos.endLine == cpos.line) = true := by rfl) (h1 : starEach (e :: []) X.env = (false, eval e X.env) :: starEach [] X.env := by rfl) (h2 : (backTo cpos (starEach [] X.env)).any (·.1) = false := by rfl) :
    PE X (.Call (.Attribute o "count" apos) (e :: []) [] cpos) (tCnt K to te) := by
  subst hK
  have ha : PA X [e] (tCons te tNil) := pa_cons he pa_nil h1
  constructor
  intro pn s0 st G Q J want
  refine wpAny_Call_method_late hbase hfew hline rfl (thn (ho.run pn s0 st G _ J want) ?_)
  rintro v s1 ⟨x, G1, J1, rx, p, rfl, ⟨xs, hq⟩, k⟩
  obtain ⟨t1, t2⟩ := tyV_is (T := "list") J1 rx (.inl ⟨rfl, _, hq⟩)
  cases rx
  refine ⟨"list", _, PySem.F.plainAttrs_list, PySem.F.slot_list_count, PySem.F.type_list_count, t1, t2, ?_⟩
  have run := ha.run cpos pn s1 st G1 (fun vs G2 => match vs with | [y] => ∃ ds d, Dd G2 (.ref p) (.list ds) ∧ Dd G2 y d ∧ shp d = true ∧ shp (.list ds) = true ∧ Q (.int (ds.countP fun e => PyData.eqv e d : Nat)) G2 | _ => False) J1 k
  rw [h1] at run ⊢
  refine Calls.callWith_builtin (by show (false || (backTo cpos (starEach [] X.env)).any (·.1)) = false; rw [h2]; rfl) (Calls.evalArgs_plain (thn run ?_))
  rintro us s2 ⟨vs, G2, J2, rv, f⟩
  match vs, rv, f with
  | [y], rv, ⟨ds, d, hx, hy, sd, sds, q⟩ =>
    obtain ⟨u, rfl, ry⟩ := vals1 rv
    cases hx with
    | lst hl t =>
      have c2 : PyData.canLayAll0 ds = true := by simpa [PyData.canLay0] using shp_lay sds
      obtain ⟨its, rv2, ⟨⟨cls, dd, dt, sl⟩, n, ho2, hc, hdn, hdat⟩, _⟩ := J2.list (SqL.of hl)
      simp only at hc hdat
      subst hc hdat
      obtain ⟨bs, rd⟩ := Dp.reads J2 d y u (hy.dp (shp_lay sd)) ry
      obtain ⟨as, ra⟩ := Dp.readsAll J2 ds _ its (t.dp c2) rv2
      have hm := SeqAt.readsAll_map ds its as c2 ra
      have dep : X.A.units + 1 + min (PyData.depthAll ds) d.depth < cLine := by
        have := shp_dep sd
        have := Nat.min_le_right (PyData.depthAll ds) d.depth
        omega
      refine call_meets PySem.F.slot_list_count ⟨_, ho2, rfl⟩ PySem.F.entry_list_count (PySem.F.args_list_count_2 _ _) (SeqAt.list_countAt p its.toArray n dd sl u (fun w => PyData.eqv (SeqAt.readOf s2.heap w) d)) ⟨ho2, SeqAt.items_eqAt (vs := its.toArray) (xs := ds) (as := as) ra rd c2 (shp_lay sd) dep, ?_⟩
      refine ⟨.int (ds.countP fun e => PyData.eqv e d : Nat), G2, J2.tok _, ⟨s2.toks, ?_⟩, q⟩
      show Value.int ((its.countP (fun w => PyData.eqv (SeqAt.readOf s2.heap w) d) : Nat) : Int) s2.toks = Value.int ((ds.countP fun e => PyData.eqv e d : Nat) : Int) s2.toks
      rw [count_read hm]
def wCnt (a b : WE) : WE := fun ρ P => a ρ fun x => asL x fun ds => b ρ fun y => asD y fun d => shp d = true ∧ shp (.list ds) = true ∧ P (.d (.int (ds.countP fun e => PyData.eqv e d : Nat)))
instance le_cnt {K : PySem.W.Frag} {to te : TE} {a b : WE} [ha : LB to a] [hb : LB te b] : LE (tCnt K to te) (wCnt a b) := ⟨fun hs hid own H σ ρ P Q r hw k => by
  refine ha.go hs hid own H σ ρ _ _ r hw fun sx x H1 hx e1 rx => ?_
  unfold asL at hx
  split at hx
  · obtain ⟨p, vs, rfl, h1, t1⟩ := rx.list
    refine ⟨p, rfl, ⟨_, SqL.of h1⟩, hb.go hs hid own H1 σ ρ _ _ (r.mono e1) hx fun sy y H2 hy e2 ry => ?_⟩
    unfold asD at hy
    split at hy
    · exact ⟨_, _, (rx.mono e2).dd, ry.dd, hy.1, hy.2.1, k _ _ H2 hy.2.2 (e1.trans e2) (.int _)⟩
    · exact hy.elim
  · exact hx.elim⟩
/-! ### {'a': 0} -/
def wDispI (z : Str) (i : Int) : WE := fun _ P => P (.d (.dict [(.str z, .int i)]))
instance le_dispI {z : Str} {i : Int} : LE (tDisp [(tC (.str z), tC (.int i))]) (wDispI z i) := ⟨fun hs hid own H σ ρ P Q r hw k => fun p hp => by
  refine ⟨upd_same, [(Sum.inr z, .int i)], rfl, by show 1 ≤ 15; decide, ?_⟩
  have e : Ex H (upd (upd H p (.dK [])) p (.dK (mergeK [] [(Sum.inr z, V.int i)]))) := Evl.Ex.mut (Evl.Ex.new hp) hp
  exact k _ _ _ hw e (.dic ((hide_of (r.notO hp)).trans upd_same) (.cons (.int i) .nil))⟩
end Lr

namespace Lr
open PySem L2 PySem.Spec PyProof.Rows
/-! ### compared with [] or (), whatever the items are -/
def rNilX (K : PySem.W.Frag) (neg : Bool) : R2 := fun x y H Q => ∃ a b xs, x = .ref a ∧ y = .ref b ∧ ((SqL K H a xs ∧ SqL K H b []) ∨ (SqT K H a xs ∧ SqT K H b [])) ∧ Q (.bl (neg != xs.isEmpty)) H
theorem ko_eqNX {X : Cx} {K : PySem.W.Frag} (hK : X.K = K) (hu : X.A.units + 64 < cLine) : OpR X (compareOp .Eq) (rNilX K false) := by
  subst hK
  rintro pn s0 st G _ _ v u Q J rx ry ⟨a, b, xs, rfl, rfl, way, q⟩
  cases rx
  cases ry
  rcases way with ⟨sa, sb⟩ | ⟨sa, sb⟩
  · obtain ⟨its, ra, ⟨o, n, ho, hc, _, hd⟩, _⟩ := J.list sa
    obtain ⟨_, rb, ⟨o2, n2, ho2, hc2, _, hd2⟩, _⟩ := J.list sb
    cases rb
    have i1 : s0.heap.IsList a its.toArray := ⟨o, ho, hc, n, hd⟩
    have i2 : s0.heap.IsList b #[] := ⟨o2, ho2, hc2, n2, hd2⟩
    cases ra with
    | nil => exact PySem.SeqAt.RcAt.lists (A := X.A) (e := fun _ => true) i1 i2 rfl (by omega) (fun j h1 _ => absurd h1 (Nat.not_lt_zero j)) X.prog X.w _ _ ⟨.bl _, G, J, rfl, q⟩
    | cons r rv => exact PySem.SeqAt.RcAt.lists_lengths (A := X.A) i1 i2 (by simp) (by omega) X.prog X.w _ _ ⟨.bl _, G, J, rfl, q⟩
  · obtain ⟨its, ra, ⟨o, ho, hc, n, hd⟩, _⟩ := J.tuple sa
    obtain ⟨_, rb, ⟨o2, ho2, hc2, n2, hd2⟩, _⟩ := J.tuple sb
    cases rb
    have i1 : s0.heap.IsTuple a its.toArray := ⟨o, ho, hc, n, hd⟩
    have i2 : s0.heap.IsTuple b #[] := ⟨o2, ho2, hc2, n2, hd2⟩
    have R := PySem.SeqAt.RcAt.tuples (A := X.A) (e := fun _ => true) i1 i2 (by omega) (fun j _ h2 => absurd h2 (Nat.not_lt_zero j))
    cases ra with
    | nil => exact R X.prog X.w _ _ ⟨.bl _, G, J, rfl, q⟩
    | cons r rv => exact R X.prog X.w _ _ ⟨.bl _, G, J, by simp; rfl, q⟩
theorem ko_neNX {X : Cx} {K : PySem.W.Frag} (hK : X.K = K) (hu : X.A.units + 64 < cLine) : OpR X (compareOp .NotEq) (rNilX K true) := by
  subst hK
  rintro pn s0 st G _ _ v u Q J rx ry ⟨a, b, xs, rfl, rfl, way, q⟩
  cases rx
  cases ry
  rcases way with ⟨sa, sb⟩ | ⟨sa, sb⟩
  · obtain ⟨its, ra, ⟨o, n, ho, hc, _, hd⟩, _⟩ := J.list sa
    obtain ⟨_, rb, ⟨o2, n2, ho2, hc2, _, hd2⟩, _⟩ := J.list sb
    cases rb
    have i1 : s0.heap.IsList a its.toArray := ⟨o, ho, hc, n, hd⟩
    have i2 : s0.heap.IsList b #[] := ⟨o2, ho2, hc2, n2, hd2⟩
    cases ra with
    | nil => exact PySem.SeqAt.RcNeAt.lists (e := fun _ => true) i1 i2 rfl (by omega) (fun j h1 _ => absurd h1 (Nat.not_lt_zero j)) X.prog X.w _ _ ⟨.bl _, G, J, rfl, q⟩
    | cons r rv => exact PySem.SeqAt.RcNeAt.lists_lengths i1 i2 (by simp) (by omega) X.prog X.w _ _ ⟨.bl _, G, J, rfl, q⟩
  · obtain ⟨its, ra, ⟨o, ho, hc, n, hd⟩, _⟩ := J.tuple sa
    obtain ⟨_, rb, ⟨o2, ho2, hc2, n2, hd2⟩, _⟩ := J.tuple sb
    cases rb
    have i1 : s0.heap.IsTuple a its.toArray := ⟨o, ho, hc, n, hd⟩
    have i2 : s0.heap.IsTuple b #[] := ⟨o2, ho2, hc2, n2, hd2⟩
    have R := PySem.SeqAt.RcNeAt.tuples (A := X.A) (e := fun _ => true) i1 i2 (by omega) (fun j _ h2 => absurd h2 (Nat.not_lt_zero j))
    cases ra with
    | nil => exact R X.prog X.w _ _ ⟨.bl _, G, J, rfl, q⟩
    | cons r rv => exact R X.prog X.w _ _ ⟨.bl _, G, J, by simp; rfl, q⟩
def fNil (neg : Bool) : W2 := fun x y P => match x, y with
  | .d (.list a), .d (.list []) => P (.d (.bool (neg != a.isEmpty)))
  | .d (.tuple a), .d (.tuple []) => P (.d (.bool (neg != a.isEmpty)))
  | _, _ => False
theorem DdAll.emp {H : Hp} {vs : List V} {ds : List PyData} (h : DdAll H vs ds) : vs.isEmpty = ds.isEmpty := by cases h <;> rfl
instance do_nil {K : PySem.W.Frag} {neg : Bool} : DO (rNilX K neg) (fNil neg) := ⟨fun hid own H x y sx sy P Q ho rx ry hf k => by
  unfold fNil at hf
  split at hf
  · obtain ⟨a, vs, rfl, h1, t1⟩ := rx.list
    obtain ⟨b, ws, rfl, h2, t2⟩ := ry.list
    cases t2
    refine ⟨a, b, vs, rfl, rfl, .inl ⟨SqL.of h1, SqL.of h2⟩, k _ _ H hf (Evl.Ex.refl H) ?_⟩
    rw [t1.emp]
    exact .bl _
  · obtain ⟨a, vs, rfl, h1, t1⟩ := rx.tuple
    obtain ⟨b, ws, rfl, h2, t2⟩ := ry.tuple
    cases t2
    refine ⟨a, b, vs, rfl, rfl, .inr ⟨(h1.ex hide_ex).sq, (h2.ex hide_ex).sq⟩, k _ _ H hf (Evl.Ex.refl H) ?_⟩
    rw [t1.emp]
    exact .bl _
  · exact hf.elim⟩
/-! ### texts compared, whatever they hold -/
def fEqS : W2 := fun x y P => match x, y with
  | .d (.str a), .d (.str b) => P (.d (.bool (decide (a = b))))
  | _, _ => False
def fNeS : W2 := fun x y P => match x, y with
  | .d (.str a), .d (.str b) => P (.d (.bool (!decide (a = b))))
  | _, _ => False
theorem V_str (a b : Str) : decide (V.str a = V.str b) = decide (a = b) := by
  by_cases h : a = b
  · subst h; simp
  · simp [h]
instance do_eqS : DO rEq fEqS := ⟨fun hid own H x y sx sy P Q ho rx ry hf k => by
  unfold fEqS at hf
  split at hf
  · rw [rx.str, ry.str]
    refine ⟨rfl, ?_⟩
    rw [V_str]
    exact k _ _ H hf (Evl.Ex.refl H) (.bl _)
  · exact hf.elim⟩
instance do_neS : DO rNe fNeS := ⟨fun hid own H x y sx sy P Q ho rx ry hf k => by
  unfold fNeS at hf
  split at hf
  · rw [rx.str, ry.str]
    refine ⟨rfl, ?_⟩
    rw [V_str]
    exact k _ _ H hf (Evl.Ex.refl H) (.bl _)
  · exact hf.elim⟩
end Lr

namespace Lr
open PySem L2 PySem.Spec PyProof.Rows
/-! ### *e in a display -/
theorem DdAll.reM {B : Hp} : ∀ {vs : List V} {ds : List PyData}, DdAll B vs ds → ReAll B vs (ds.map .d)
  | _, _, .nil => .nil
  | _, _, .cons a t => .cons a t.reM
def wStar (a : WE) (b : WA) : WA := fun ρ P => a ρ fun x => asSeq x fun ds => b ρ fun ss => P (ds.map SV.d ++ ss)
instance la_star {K : PySem.W.Frag} {te : TE} {t : TA} {a : WE} {b : WA} [ha : LB te a] [hb : LA t b] : LA (StX.tStar K te t) (wStar a b) := ⟨fun hs hid own H σ ρ P Q r hw k => by
  refine ha.go hs hid own H σ ρ _ _ r hw fun sx x H1 p e1 rx => ?_
  have r1 := r.mono e1
  have fin : ∀ (vs : List V) (ds : List PyData), DdAll (Bh hid own H1) vs ds → b ρ (fun ss => P (ds.map SV.d ++ ss)) → t σ H1 fun ys H2 => Q (vs ++ ys) H2 := fun vs ds hv hb2 =>
    hb.go hs hid own H1 σ ρ _ _ r1 hb2 fun ss ys H2 p2 e2 q2 => k _ _ H2 p2 (e1.trans e2) (((hv.mono (hide_mono e2)).reM).app q2)
  unfold asSeq at p
  split at p
  · obtain ⟨c, vs, rfl, h1, t1⟩ := rx.list
    exact ⟨c, vs, rfl, .inr (SqL.of h1), fin vs _ t1 p⟩
  · obtain ⟨c, vs, rfl, h1, t1⟩ := rx.tuple
    exact ⟨c, vs, rfl, .inl (h1.ex hide_ex).sq, fin vs _ t1 p⟩
  · exact p.elim⟩
/-! ### len(set(x)), sorted(x) of ints -/
def asTu (x : SV) (P : List PyData → Prop) : Prop := match x with
  | .d (.tuple ds) => P ds
  | _ => False
def wLenSet (a : WE) : WE := fun ρ P => a ρ fun x => asTu x fun ds => asIs ds fun ns => ns.length ≤ 4000 ∧ ∀ m : Nat, (m = ns.length ↔ ns.Nodup) → P (.d (.int m))
instance le_lenSet {K : PySem.W.Frag} {te : TE} {a : WE} [ha : LB te a] : LE (tLenSetT K te) (wLenSet a) := ⟨fun hs hid own H σ ρ P Q r hw k => by
  refine ha.go hs hid own H σ ρ _ _ r hw fun sx x H1 p e1 rx => ?_
  unfold asTu at p
  split at p
  · obtain ⟨c, vs, rfl, h1, t1⟩ := rx.tuple
    unfold asIs at p
    split at p
    · rename_i ns hn
      have e := t1.ints hn
      subst e
      exact ⟨c, ns, rfl, (h1.ex hide_ex).sq, p.1, fun m hm => k _ _ H1 (p.2 m hm) e1 (.int _)⟩
    · exact p.elim
  · exact p.elim⟩
def rSortX (K : PySem.W.Frag) : List V → Hp → VK → Prop := fun vs H Q => rSortT K vs H Q ∨ rSorted K vs H Q
theorem k_sortX {X : Cx} {K : PySem.W.Frag} (hK : X.K = K) : CallR X (.builtin "sorted") (rSortX K) := by
  intro pn s0 st G xs us Q J r h
  rcases h with h | h
  · exact cr_sortT hK pn s0 st G xs us Q J r h
  · exact cr_sortL hK pn s0 st G xs us Q J r h
theorem DdAll.mkI {H : Hp} : ∀ ns : List Int, DdAll H (ns.map V.int) (ns.map PyData.int)
  | [] => .nil
  | n :: r => .cons (.int n) (DdAll.mkI r)
def fSort : WC := fun ss P => match ss with
  | [.d (.tuple a)] => asIs a fun ns => ns.length < 64 ∧ ∀ ys : List Int, ys.Perm ns → ys.Pairwise (· ≤ ·) → P (.d (.list (ys.map .int)))
  | [.d (.list a)] => asIs a fun ns => ns.length < 64 ∧ ∀ ys : List Int, ys.Perm ns → ys.Pairwise (· ≤ ·) → P (.d (.list (ys.map .int)))
  | _ => False
instance dc_sort {K : PySem.W.Frag} : DC (rSortX K) fSort := ⟨fun hid own H vs ss P Q ho q hf k => by
  unfold fSort at hf
  split at hf
  · obtain ⟨v, rfl, r⟩ := rb1 q
    obtain ⟨a, vs, rfl, h1, t1⟩ := r.tuple
    unfold asIs at hf
    split at hf
    · rename_i ns hn
      have e := t1.ints hn
      subst e
      exact .inl ⟨a, ns, rfl, (h1.ex hide_ex).sq, hf.1, fun ys p hp hs hn => new_lst ho (DdAll.mkI ys) (hf.2 ys hp hs) k p hn⟩
    · exact hf.elim
  · obtain ⟨v, rfl, r⟩ := rb1 q
    obtain ⟨a, vs, rfl, h1, t1⟩ := r.list
    unfold asIs at hf
    split at hf
    · rename_i ns hn
      have e := t1.ints hn
      subst e
      exact .inr ⟨a, ns, rfl, SqL.of h1, hf.1, fun ys p hp hs hn => new_lst ho (DdAll.mkI ys) (hf.2 ys hp hs) k p hn⟩
    · exact hf.elim
  · exact hf.elim⟩
/-! ### xs.remove(k), xs one's own, of ints -/
def wRem (i : Nat) (e : WE) : WS := fun E ρ => gown ρ[i]? fun ds => asIs ds fun ns => e ρ fun y => asI y fun k => k ∈ ns ∧ E.nx (ρ.set i (some (.own ((ns.erase k).map .int))))
theorem erase_at : ∀ {ns : List Int} {k : Int}, k ∈ ns → ∃ j : Nat, ns[j]? = some k ∧ (∀ m < j, ns[m]? ≠ some k) ∧ ns.eraseIdx j = ns.erase k
  | x :: r, k, h => by
    by_cases e : x = k
    · subst e
      exact ⟨0, rfl, fun m hm => absurd hm (by omega), by simp⟩
    · have hk : k ∈ r := by
        rcases List.mem_cons.mp h with z | z
        · exact absurd z.symm e
        · exact z
      obtain ⟨j, h1, h2, h3⟩ := erase_at hk
      refine ⟨j + 1, by simpa using h1, fun m hm => ?_, ?_⟩
      · cases m with
        | zero => simpa using e
        | succ m => simpa using h2 m (by omega)
      · rw [List.erase_cons_tail (by simpa using e)]
        simp [h3]
instance (priority := 2000) ls_rem {K : PySem.W.Frag} {i : Nat} {t : TE} {e : WE} [he : LE t e] : LS (tDrop (tBM K "list" rRemI (tVar i) (tCons t tNil))) (wRem i e) := ⟨fun hs hid D E own H σ ρ k r hw => by
  obtain ⟨ds0, a, vs, hw, hds, h2, h1, h3, h4⟩ := gown_get r hw
  unfold asIs at hw
  split at hw
  · rename_i ns hn
    have ev := h4.ints hn
    subst ev
    refine ⟨_, h1, .inl ⟨rfl, _, SqL.of h3⟩, he.go hs hid own H σ ρ _ _ r hw fun s y H1 p e1 q => ?_⟩
    unfold asI at p
    split at p
    · rename_i kk
      have ey : y = .int kk := Rb.int (hid := hid) (own := own) (.inl q)
      subst ey
      obtain ⟨hm, p⟩ := p
      obtain ⟨j, j1, j2, j3⟩ := erase_at hm
      refine ⟨a, ns, kk, j, rfl, rfl, e1 _ _ h3, j1, j2, ?_⟩
      rw [j3]
      exact k.nx own _ _ _ p ((r.mono e1).mut h2 h1 (DdAll.mkI _))
    · exact p.elim
  · exact hw.elim⟩
/-! ### [x1, x2][i](e, ..): defs with a star, one of two -/
def tPick (K : PySem.W.Frag) (f1 f2 : Addr) (sp1 sp2 : Sp) (E : XK) (ti : TE) (t : TA) : TE := fun σ H Q => tOp (rIxX K) (tLst (tCons (tC (.ref f1)) (tCons (tC (.ref f2)) tNil))) ti σ H fun y H1 => (y = .ref f1 ∧ t σ H1 fun vs H2 => sp1 vs H2 Q E) ∨ (y = .ref f2 ∧ t σ H1 fun vs H2 => sp2 vs H2 Q E)
def CalRf (P : Program) (w : World) (K : PySem.W.Frag) (mg : Str → Option Value) (base : Heap) (k : Nat) (x : Str) (f : Addr) (sp : Sp) : Prop := FnR P w K mg base (L2.CX P w) k f sp ∧ mg x = some (.ref f) ∧ PySem.W.keepIn K (.ref f) = true
section
variable {X : Cx} {k : Nat} {x1 x2 : Str} {f1 f2 : Addr} {sp1 sp2 : Sp} {E : XK} {ix e : Expr} {es : List Expr} {ti : TE} {t : TA} {p1 p2 p3 p4 pos : Pos}
theorem pe_two (C1 : CalRf X.prog X.w X.K X.mg X.base k x1 f1 sp1) (C2 : CalRf X.prog X.w X.K X.mg X.base k x2 f2 sp2) (g1 : Gl X x1) (g2 : Gl X x2) (hi : PE X ix ti) (hs : PlainIx ix) (d1 : (x1 == ("__debug__" : Str)) = false := by decide) (d2 : (x2 == ("__debug__" : Str)) = false := by decide)
    (n1 : starEach [.Name x1 p1, .Name x2 p2] X.env = (false, eval (.Name x1 p1) X.env) :: starEach [.Name x2 p2] X.env := by rfl) (n2 : starEach [.Name x2 p2] X.env = (false, eval (.Name x2 p2) X.env) :: starEach [] X.env := by rfl) :
    PE X (.Subscript (.List [.Name x1 p1, .Name x2 p2] p3) ix p4) (tOp (rIxX X.K) (tLst (tCons (tC (.ref f1)) (tCons (tC (.ref f2)) tNil))) ti) :=
  pe_ix (kx_X rfl) (pe_lst (pa_cons (pe_glob (v := .ref f1) g1 C1.2.1 rfl d1) (pa_cons (pe_glob (v := .ref f2) g2 C2.2.1 rfl d2) pa_nil))) hi hs
theorem pe_pick (C1 : CalRf X.prog X.w X.K X.mg X.base k x1 f1 sp1) (C2 : CalRf X.prog X.w X.K X.mg X.base k x2 f2 sp2) (hr : Room k X.A) (tk : Takes X (fun cls d _ H => E cls d H)) (g1 : Gl X x1) (g2 : Gl X x2) (hi : PE X ix ti) (hs : PlainIx ix) (ha : PA X (e :: es) t) (d1 : (x1 == ("__debug__" : Str)) = false := by decide) (d2 : (x2 == ("__debug__" : Str)) = false := by decide)
    (ht : eval (.Call (.Subscript (.List [.Name x1 p1, .Name x2 p2] p3) ix p4) (e :: es) [] pos) X.env = (do callWith pos (← eval (.Subscript (.List [.Name x1 p1, .Name x2 p2] p3) ix p4) X.env) [] (backTo pos (starEach (e :: es) X.env)) (backToKw pos (keywordEach [] X.env))) := by rfl)
    (he : starEach (e :: es) X.env = (false, eval e X.env) :: starEach es X.env := by rfl) (hpl : (backTo pos (starEach es X.env)).any (·.1) = false := by rfl) :
    PE X (.Call (.Subscript (.List [.Name x1 p1, .Name x2 p2] p3) ix p4) (e :: es) [] pos) (tPick X.K f1 f2 sp1 sp2 E ti t) := by
  refine ⟨fun pins s σ H Q I h => ?_⟩
  have run : ∀ (f : Addr) (sp : Sp) (s1 : Shared) (H1 : Hp), FnR X.prog X.w X.K X.mg X.base (L2.CX X.prog X.w) k f sp → PySem.W.keepIn X.K (.ref f) = true → Inv X pins σ H1 s1 → (t σ H1 fun vs H2 => sp vs H2 Q E) →
      wpAny (model X.prog X.w) X.A (callWith pos (.ref f) [] (backTo pos (starEach (e :: es) X.env)) (backToKw pos (keywordEach [] X.env))) (EP X pins σ Q) X.xe s1 := fun f sp s1 H1 G kp I1 q =>
    PySem.W.callWith_K (h₀ := X.base) I1.ok.mod.kin kp (thn (ha.run pos pins s1 σ H1 _ I1 q) fun us s2 ⟨vs, H2, I2, r, q2⟩ => ⟨I2.kIn, wpAny_call (run_fnR G hr (passes_call tk fun _ _ _ _ h => h) I2 r q2)⟩) he hpl
  refine Call_ (thn ((pe_two C1 C2 g1 g2 hi hs d1 d2).run pins s σ H _ I h) fun u s1 ⟨y, H1, I1, ry, q⟩ => ?_) ht
  rcases q with ⟨rfl, q⟩ | ⟨rfl, q⟩
  · obtain rfl : u = Value.ref f1 := ry
    exact run f1 sp1 s1 H1 C1.1 C1.2.2 I1 q
  · obtain rfl : u = Value.ref f2 := ry
    exact run f2 sp2 s1 H1 C2.1 C2.2.2 I1 q
theorem pe_pick0 (C1 : CalRf X.prog X.w X.K X.mg X.base k x1 f1 sp1) (C2 : CalRf X.prog X.w X.K X.mg X.base k x2 f2 sp2) (hr : Room k X.A) (tk : Takes X (fun cls d _ H => E cls d H)) (g1 : Gl X x1) (g2 : Gl X x2) (hi : PE X ix ti) (hs : PlainIx ix) (d1 : (x1 == ("__debug__" : Str)) = false := by decide) (d2 : (x2 == ("__debug__" : Str)) = false := by decide)
    (ht : eval (.Call (.Subscript (.List [.Name x1 p1, .Name x2 p2] p3) ix p4) [] [] pos) X.env = (do callWith pos (← eval (.Subscript (.List [.Name x1 p1, .Name x2 p2] p3) ix p4) X.env) [] (backTo pos (starEach [] X.env)) (backToKw pos (keywordEach [] X.env))) := by rfl) :
    PE X (.Call (.Subscript (.List [.Name x1 p1, .Name x2 p2] p3) ix p4) [] [] pos) (tPick X.K f1 f2 sp1 sp2 E ti tNil) := by
  refine ⟨fun pins s σ H Q I h => ?_⟩
  refine Call_ (thn ((pe_two C1 C2 g1 g2 hi hs d1 d2).run pins s σ H _ I h) fun u s1 ⟨y, H1, I1, ry, q⟩ => ?_) ht
  rcases q with ⟨rfl, q⟩ | ⟨rfl, q⟩
  · obtain rfl : u = Value.ref f1 := ry
    exact PySem.W.callWith_K0 I1.kIn C1.2.2 (wpAny_call (run_fnR (us := []) C1.1 hr (passes_call tk fun _ _ _ _ h => h) I1 .nil q))
  · obtain rfl : u = Value.ref f2 := ry
    exact PySem.W.callWith_K0 I1.kIn C2.2.2 (wpAny_call (run_fnR (us := []) C2.1 hr (passes_call tk fun _ _ _ _ h => h) I1 .nil q))
end
def wRun (R : RXS) (b : WA) (xp : PX) (ρ : Ro) (P : SV → Prop) : Prop := b ρ fun ss => asDs ss fun ds => ds.length ≤ 1000 ∧ R [] ds P xp
def wPick (R1 R2 : RXS) (a : WE) (b : WA) : PX → WE := fun xp ρ P => a ρ fun y => asI y fun i => (i = 0 ∧ wRun R1 b xp ρ P) ∨ (i = 1 ∧ wRun R2 b xp ρ P)
instance lex_pick {K : PySem.W.Frag} {E : XK} {f1 f2 : Addr} {R1 R2 : RXS} {ti : TE} {t : TA} {a : WE} {b : WA} [ha : LE ti a] [hb : LA t b] : LEX E (tPick K f1 f2 (spXS 0 R1) (spXS 0 R2) E ti t) (wPick R1 R2 a b) := ⟨fun hs hid own H σ ρ xp P Q r hx hw k => by
  refine ⟨by show 2 ≤ sizeLine; decide, fun p hp => ?_⟩
  have e0 := Evl.Ex.new hp (o := .lst [V.ref f1, V.ref f2])
  have at0 := upd_same (H := H) (a := p) (o := .lst [V.ref f1, V.ref f2])
  refine ha.go hs hid own _ σ ρ _ _ (r.mono e0) hw fun s y H1 q e1 ry => ?_
  have r1 := (r.mono e0).mono e1
  unfold asI at q
  split at q
  · rename_i i
    have ey : y = .int i := Rb.int (hid := hid) (own := own) (.inl ry)
    subst ey
    have fin : ∀ R : RXS, wRun R b xp ρ P → t σ H1 fun vs H2 => spXS 0 R vs H2 Q E := fun R hR => by
      refine hb.go hs hid own H1 σ ρ _ _ r1 hR fun ss vs H2 p2 e2 q2 => ?_
      have r2 := r1.mono e2
      unfold asDs at p2
      split at p2
      · rename_i ds hd
        have e := allD_map hd
        subst e
        exact ⟨Oo hid own, [], ds, P, xp, rfl, p2.1, r2.occ, q2, p2.2, fun s v H' p e q => k s v H' p ((e0.trans (e1.trans e2)).trans e) q, hx.mono r2.ex oo_le⟩
      · exact p2.elim
    rcases q with ⟨rfl, q⟩ | ⟨rfl, q⟩
    · exact .inl ⟨p, _, 0, .ref f1, rfl, rfl, SqL.of (e1 _ _ at0), rfl, .inl ⟨rfl, fin R1 q⟩⟩
    · exact .inl ⟨p, _, 1, .ref f2, rfl, rfl, SqL.of (e1 _ _ at0), rfl, .inr ⟨rfl, fin R2 q⟩⟩
  · exact q.elim⟩
end Lr

namespace Lr
open PySem L2 PySem.Spec PyProof.Rows
/-! ### loops whose items are new tuples: enumerate, zip -/
def rowsD (xs : List (List PyData)) : List SV := xs.map fun r => .d (.tuple r)
def wForW (i : WIW) (g : WG) (b : WS) : WS := fun E ρ => i ρ fun xs => wFor g b (rowsD xs) E ρ
instance ls_forW {wi : TI} {K : PySem.W.Frag} {n : Nat} {g : TGs} {tb : TS} {js : List Nat} {i : WIW} {wg : WGs} {b : WS} [hi : LIW wi i] [hg : LGs g js wg] [hb : LS tb b] : LS (tFor wi (gTup K n g) tb) (wForW i (wgTup n wg) b) := ⟨fun hs hid D E own H σ ρ k r hw => by
  refine hi.go hs hid own H σ ρ _ _ r hw fun xs J H1 p e1 hJ => ?_
  have r1 := r.mono e1
  let hs1 : Hp := hide (fun a => ∃ j, own j = some a) H1
  have hss : Ex hs hs1 := fun a o h => (hide_of (fun ⟨j, z⟩ => by rw [(r1.new j a z).1] at h; cases h)).trans (r1.ex _ _ h)
  have hB1 : Ex (Bh hid own H1) hs1 := hide_le fun a h => .inr h
  have r1' : Rep hs1 hid own H1 σ ρ := ⟨hide_ex, r1.occ, fun j a h => ⟨hide_yes ⟨j, h⟩, (r1.new j a h).2⟩, r1.inj, r1.len, r1.get⟩
  have lr : (rowsD xs).length = xs.length := List.length_map _
  refine ⟨fun m1 m σ' H' => ∃ own' ρ', m = xs.length - m1 ∧ m1 ≤ xs.length ∧ Rep hs1 hid own' H' σ' ρ' ∧ wFor (wgTup n wg) b ((rowsD xs).drop m1) E ρ', ⟨xs.length, own, ρ, rfl, Nat.zero_le _, r1', p⟩, ?_⟩
  rintro m1 m σ' H' ⟨own', ρ', rfl, hn, r', hp⟩
  by_cases hlt : m1 < xs.length
  · have hx : xs[m1]? = some xs[m1] := List.getElem?_eq_getElem hlt
    have hd : (rowsD xs).drop m1 = .d (.tuple xs[m1]) :: (rowsD xs).drop (m1 + 1) := by
      rw [List.drop_eq_getElem_cons (by rw [lr]; exact hlt)]
      congr 1
      exact List.getElem_map _
    rw [hd] at hp
    obtain ⟨hgo, hyld⟩ := hJ.step m1 _ H' (hB1.trans r'.ex) hx
    refine .inr ⟨hgo, fun σ2 H2 => ∃ own2 ρ2, Rep hs1 hid own2 H2 σ2 ρ2 ∧ wFor (wgTup n wg) b ((rowsD xs).drop (m1 + 1)) E ρ2, ?_, ?_⟩
    · rintro σ2 H2 ⟨own2, ρ2, a1, a2⟩
      exact ⟨xs.length - (m1 + 1), by omega, own2, ρ2, rfl, hlt, a1, a2⟩
    · intro x H'' hy
      obtain ⟨T, ws, rfl, hT, rfl, hws⟩ := hyld x H'' hy
      have eN := Evl.Ex.new hT (o := .tup ws)
      have rN := r'.mono eN
      have hws' : DdAll (Bh hid own' (upd H' T (.tup ws))) ws xs[m1] := by
        refine hws.mono fun a o h => ?_
        obtain ⟨h1, h2⟩ := hide_some h
        have h3 : hs1 a = some o := hB1 _ _ h
        refine (hide_of (fun z => ?_)).trans (rN.ex _ _ h3)
        rcases z with z | ⟨j, z⟩
        · exact h1 (.inl z)
        · rw [(r'.new j a z).1] at h3; cases h3
      have hp2 : xs[m1].length = n ∧ wg xs[m1] ρ' (fun ρ2 => b { E with nx := wFor (wgTup n wg) b ((rowsD xs).drop (m1 + 1)) E, ct := wFor (wgTup n wg) b ((rowsD xs).drop (m1 + 1)) E, bk := E.nx } ρ2) := hp
      refine ⟨T, ws, rfl, SqT.of upd_same, by rw [hws'.len]; exact hp2.1, hg.go hs1 hid own' _ σ' ρ' _ _ _ _ rN hws' hp2.2 fun σ2 ρ2 p2 r2 _ => ?_⟩
      refine hb.go hs1 hid _ { E with nx := wFor (wgTup n wg) b ((rowsD xs).drop (m1 + 1)) E, ct := wFor (wgTup n wg) b ((rowsD xs).drop (m1 + 1)) E, bk := E.nx } own' _ σ2 ρ2 ⟨fun own H σ ρ p r => ⟨own, ρ, r, p⟩, fun own H σ ρ p r => k.nx own H σ ρ p (r.start hss), fun own H σ ρ p r => ⟨own, ρ, r, p⟩, fun s v H p e q => k.rt s v H p (hss.trans e) q⟩ r2 p2
  · have hn2 : m1 = xs.length := by omega
    subst hn2
    rw [List.drop_of_length_le (by rw [lr]; exact Nat.le_refl _)] at hp
    exact .inl ⟨hJ.stop H' (hB1.trans r'.ex), k.nx own' H' σ' ρ' hp (r'.start hss)⟩⟩
/-! enumerate of lists and tuples -/
def numb (ds : List PyData) : List (List PyData) := (List.range ds.length).zipWith (fun i d => [.int (i : Nat), d]) ds
theorem numb_len (ds : List PyData) : (numb ds).length = ds.length := by simp [numb]
theorem numb_get {ds : List PyData} {i : Nat} {r : List PyData} (h : (numb ds)[i]? = some r) : ∃ d, ds[i]? = some d ∧ r = [.int (i : Nat), d] := by
  unfold numb at h
  rw [List.getElem?_zipWith] at h
  cases q : ds[i]? with
  | none => rw [q] at h; cases e : (List.range ds.length)[i]? <;> (rw [e] at h; cases h)
  | some d =>
    have lt := (List.getElem?_eq_some_iff.mp q).1
    rw [q, List.getElem?_range lt] at h
    cases h
    exact ⟨d, rfl, rfl⟩
theorem it_enumL {K : PySem.W.Frag} {B0 Bi : Hp} {a : Addr} {vs : List V} {ds : List PyData} (h : B0 a = some (.lst vs)) (t : DdAll Bi vs ds) : ItOkW B0 Bi (Ite K a) (numb ds) := by
  refine ⟨fun i s H' e hs => ?_, fun H' e => ⟨vs, SqL.of (e _ _ h), by rw [numb_len, t.len]; exact Nat.le_refl _⟩⟩
  obtain ⟨d, hd, rfl⟩ := numb_get hs
  obtain ⟨v, hv, dv⟩ := t.getD hd
  refine ⟨⟨vs, v, SqL.of (e _ _ h), hv⟩, ?_⟩
  rintro v' H'' ⟨T, x, rfl, hT, rfl, hy⟩
  have := hy vs (SqL.of (e _ _ h))
  rw [hv] at this
  cases this
  exact ⟨T, _, rfl, hT, rfl, .cons (.int _) (.cons dv .nil)⟩
theorem it_enumT {B0 Bi : Hp} {a : Addr} {vs : List V} {ds : List PyData} (h : Ti B0 a vs) (t : DdAll Bi vs ds) : ItOkW B0 Bi (ItT a vs) (numb ds) := by
  refine ⟨fun i s H' e hs => ?_, fun H' e => ⟨(h.ex e).tu, by rw [numb_len, t.len]; exact Nat.le_refl _⟩⟩
  obtain ⟨d, hd, rfl⟩ := numb_get hs
  obtain ⟨v, hv, dv⟩ := t.getD hd
  refine ⟨⟨(h.ex e).tu, (List.getElem?_eq_some_iff.mp hv).1⟩, ?_⟩
  rintro v' H'' ⟨T, x, rfl, hT, hx, rfl⟩
  rw [hv] at hx
  cases hx
  exact ⟨T, _, rfl, hT, rfl, .cons (.int _) (.cons dv .nil)⟩
def iEnumQ (K : PySem.W.Frag) (te : TE) : TI := fun σ H R => te σ H fun x H1 => (∃ a xs, x = .ref a ∧ SqL K H1 a xs ∧ R (Ite K a) H1) ∨ (∃ a xs, x = .ref a ∧ Tu H1 a xs ∧ R (ItT a xs) H1)
theorem pi_enumQ {X : Cx} {K : PySem.W.Frag} {e : Expr} {te : TE} {p pos tpos : Pos} {elts : List Expr} {kk : Nat} (hK : X.K = K) (hg : Gl X "enumerate") (hm : X.mg "enumerate" = none) (he : PE X e te)
    (hs : starEach [e] X.env = [(false, eval e X.env)] := by rfl) : PI X (.Tuple elts kk tpos) (.Call (.Name "enumerate" p) [e] [] pos) (iEnumQ K te) := by
  subst hK
  have hpa : PA X [e] (tCons te tNil) := pa_cons he pa_nil (by rw [hs]; rfl)
  refine ⟨fun pn s0 st G R J want => ?_⟩
  have two : ∀ {s1 : Shared} {b : Addr}, b ∈ [s1.heap.objs.size + 1, s1.heap.objs.size] → s1.heap.objs.size ≤ b := fun {s1 b} hb => by
    simp only [List.mem_cons, List.not_mem_nil, or_false] at hb
    rcases hb with rfl | rfl
    · exact Nat.le_succ _
    · exact Nat.le_refl _
  refine Call_ (ld_blt J hg hm boot_enumerate (PyProof.Rows.callWith_type1 (thn (hpa.run pos pn s0 st G (fun vs G1 => match vs with | [x] => (∃ a xs, x = .ref a ∧ SqL X.K G1 a xs ∧ R (Ite X.K a) G1) ∨ (∃ a xs, x = .ref a ∧ Tu G1 a xs ∧ R (ItT a xs) G1) | _ => False) J want) ?_) hs rfl))
  rintro us s1 ⟨vs, G1, J1, r1, q0⟩
  split at q0
  · rename_i x
    rcases q0 with ⟨a, xs, rfl, hat, q⟩ | ⟨a, xs, rfl, hat, q⟩
    · cases r1 with
      | cons r rr =>
        cases rr
        cases r
        obtain ⟨its, rv, pl, _⟩ := J1.list hat
        refine call_enum1 (begins_list a its.toArray) pl.isList fun h2 hen hit hk => wpAny_pyIter_enum hen ?_
        have J2 : Inv X pn st G1 { s1 with heap := h2 } := J1.kept (t' := s1.toks) hk
        exact ⟨s1.heap.objs.size + 1, [s1.heap.objs.size + 1, s1.heap.objs.size], _, _, G1, rfl, J2, turn_enum a (s1.heap.objs.size + 1) s1.heap.objs.size, ⟨⟨.none, hen⟩, ⟨_, hit, rfl, rfl⟩, Nat.succ_ne_self _⟩, fun b hb => J1.fpOk (two hb) (J1.hok.fresh (two hb)), q⟩
    · cases r1 with
      | cons r rr =>
        cases rr
        cases r
        obtain ⟨its, rv, ⟨o, ho, hcls, n, hdat⟩, _⟩ := J1.tuple (Tu.sq hat)
        refine call_enum1 (begins_tuple a its.toArray) ⟨o, ho, hcls, n, hdat⟩ fun h2 hen hit hk => wpAny_pyIter_enum hen ?_
        have J2 : Inv X pn st G1 { s1 with heap := h2 } := J1.kept (t' := s1.toks) hk
        exact ⟨s1.heap.objs.size + 1, [s1.heap.objs.size + 1, s1.heap.objs.size], _, _, G1, rfl, J2, turn_enumT a xs (s1.heap.objs.size + 1) s1.heap.objs.size, ⟨⟨.none, hen⟩, ⟨_, hit, rfl, rfl⟩, Nat.succ_ne_self _, Nat.zero_le _⟩, fun b hb => J1.fpOk (two hb) (J1.hok.fresh (two hb)), q⟩
  · exact q0.elim
def wEnum (a : WE) : WIW := fun ρ P => a ρ fun x => asSeq x fun ds => P (numb ds)
instance liw_enum {K : PySem.W.Frag} {te : TE} {a : WE} [ha : LE te a] : LIW (iEnumQ K te) (wEnum a) := ⟨fun hs hid own H σ ρ P R r hw k => by
  refine ha.go hs hid own H σ ρ _ _ r hw fun s v H' p e q => ?_
  unfold asSeq at p
  split at p
  · cases q with
    | lst h t => exact .inl ⟨_, _, rfl, SqL.of (hide_ex _ _ h), k _ _ H' p e (it_enumL h t)⟩
  · cases q with
    | tup h t => exact .inr ⟨_, _, rfl, (h.ex hide_ex).tu, k _ _ H' p e (it_enumT h t)⟩
  · exact p.elim⟩
def wLcW (i : WIW) (g : WG) (c : WT) (e : WE) (vs : List Nat) : WE := fun ρ P => i ρ fun xs => xs.length ≤ 100000 ∧ wComp g c e (wipeR ρ vs) (rowsD xs) fun ys => P (.d (.list ys))
instance le_lcW {wi : TI} {K : PySem.W.Frag} {nn : Nat} {g : TGs} {tt : TT} {te : TE} {vs js : List Nat} {i : WIW} {wg : WGs} {c : WT} {e : WE} [hi : LIW wi i] [hg : LGs g js wg] [hc : LT tt c] [he : LE te e] [hv : SubL js vs] : LE (tLc wi (gTup K nn g) tt te vs) (wLcW i (wgTup nn wg) c e vs) := ⟨fun hs hid own H σ ρ P Q r hw k => by
  refine hi.go hs hid own H σ ρ _ _ r hw fun xs J H1 p e1 hJ D hD => ?_
  obtain ⟨hlen, p⟩ := p
  have r1 := (r.mono e1).wipe vs
  have nD : ¬ Oo hid own D := r1.notO hD
  -- the new list is hidden while it grows
  let hid' : Addr → Prop := fun a => hid a ∨ a = D
  have ownD : ∀ j a, own j = some a → a ≠ D := fun j a h z => nD (.inr ⟨j, by rw [h, z]⟩)
  let Pd : List PyData → Prop := fun ys => P (.d (.list ys))
  refine ⟨fun n m H' => ∃ acc ys, m = xs.length - n ∧ n ≤ xs.length ∧ Ex H1 H' ∧ H' D = some (.lst acc) ∧ acc.length ≤ n ∧ DdAll (Bh hid' own H') acc ys ∧ wComp (wgTup nn wg) c e (wipeR ρ vs) ((rowsD xs).drop n) (fun zs => Pd (ys ++ zs)), ⟨xs.length, [], [], rfl, Nat.zero_le _, Evl.Ex.new hD, upd_same, Nat.le_refl _, .nil, by simpa using p⟩, ?_⟩
  rintro n m H' ⟨acc, ys, rfl, hn, e2, hacc, hal, hys, hp⟩
  have hBD : ∀ {G : Hp}, Ex (Bh hid' own G) (Bh hid own G) := hide_le oo_or
  by_cases hlt : n < xs.length
  · have hx : xs[n]? = some xs[n] := List.getElem?_eq_getElem hlt
    have hdrop : (rowsD xs).drop n = .d (.tuple xs[n]) :: (rowsD xs).drop (n + 1) := by
      rw [List.drop_eq_getElem_cons (by unfold rowsD; rw [List.length_map]; exact hlt)]
      congr 1
      exact List.getElem_map _
    rw [hdrop] at hp
    obtain ⟨hgo, hyld⟩ := hJ.step n _ H' (hide_ex.trans e2) hx
    refine .inr ⟨hgo, fun G => ∃ acc ys, Ex H1 G ∧ G D = some (.lst acc) ∧ acc.length ≤ n + 1 ∧ DdAll (Bh hid' own G) acc ys ∧ wComp (wgTup nn wg) c e (wipeR ρ vs) ((rowsD xs).drop (n + 1)) (fun zs => Pd (ys ++ zs)), ?_, ?_⟩
    · rintro G ⟨acc, ys, a1, a2, a3, a4, a5⟩
      exact ⟨xs.length - (n + 1), by omega, acc, ys, rfl, hlt, a1, a2, a3, a4, a5⟩
    · intro x H'' hy
      obtain ⟨T, ws, rfl, hT, hH, hxs⟩ := hyld x H'' hy
      have eN : Ex H' H'' := by rw [hH]; exact Evl.Ex.new hT
      have tN : H'' T = some (.tup ws) := by rw [hH]; exact upd_same
      clear hH
      replace e2 := e2.trans eN
      replace hacc := eN _ _ hacc
      replace hys := hys.mono (hide_mono eN)
      -- the state, with the new list hidden
      have rp : Rep hs hid' own H'' (wipe σ vs) (wipeR ρ vs) := by
        have r2 := r1.mono e2
        have hB : Ex (Bh hid own H1) (Bh hid' own H'') := fun a o h => by
          obtain ⟨h1, h2⟩ := hide_some h
          refine (hide_of (fun z => ?_)).trans (e2 _ _ h2)
          rcases z with (z | rfl) | z
          · exact h1 (.inl z)
          · rw [hD] at h2; cases h2
          · exact h1 (.inr z)
        refine ⟨r2.ex, fun a h => ?_, fun j a h => ⟨(r2.new j a h).1, ?_⟩, r2.inj, r2.len, fun j s h => ?_⟩
        · rcases h with (h | rfl) | h
          · exact r2.occ a (.inl h)
          · rw [hacc]; exact fun z => nomatch z
          · exact r2.occ a (.inr h)
        · rintro (z | z)
          · exact (r2.new j a h).2 z
          · exact ownD j a h z
        · obtain ⟨v, h1, h2⟩ := r1.get j s h
          refine ⟨v, h1, ?_⟩
          exact h2.lift (fun x a _ ha => r1.keeps e2 x a ha) hB
      have hxs' : DdAll (Bh hid' own H'') ws xs[n] := by
        refine hxs.mono fun a o h => ?_
        obtain ⟨h1, h2⟩ := hide_some h
        refine (hide_of (fun z => ?_)).trans (e2 _ _ h2)
        rcases z with (z | rfl) | z
        · exact h1 (.inl z)
        · rw [hD] at h2; cases h2
        · exact h1 (.inr z)
      have hp2 : xs[n].length = nn ∧ wg xs[n] (wipeR ρ vs) (fun ρ' => c ρ' fun b => if b = true then e ρ' (fun y => asDs [y] fun d => wComp (wgTup nn wg) c e (wipeR ρ vs) ((rowsD xs).drop (n + 1)) fun zs => Pd (ys ++ (d ++ zs))) else wComp (wgTup nn wg) c e (wipeR ρ vs) ((rowsD xs).drop (n + 1)) fun zs => Pd (ys ++ zs)) := hp
      refine ⟨T, ws, rfl, SqT.of tN, by rw [hxs'.len]; exact hp2.1, hg.go hs hid' own H'' _ _ _ _ _ _ rp hxs' hp2.2 fun σ2 ρ2 p2 r2 o2 => ⟨(o2 vs hv.out).trans (wipe_wipe σ vs), ?_⟩⟩
      refine hc.go hs hid' own H'' σ2 ρ2 _ _ r2 p2 fun b H3 p3 e3 => ?_
      have r3 := r2.mono e3
      cases b with
      | false =>
        refine iteF ⟨acc, ys, e2.trans e3, e3 _ _ hacc, by omega, hys.mono (hide_mono e3), by simpa using p3⟩
      | true =>
        refine iteT (he.go hs hid' own H3 σ2 ρ2 _ _ r3 (by simpa using p3) fun s y H4 p4 e4 q4 => ?_)
        have e34 := e3.trans e4
        have hacc4 := e34 _ _ hacc
        unfold asDs at p4
        split at p4
        · rename_i ds hds
          have hd1 : DdAll (Bh hid' own H4) [y] ds := ReAll.dd (.cons q4 .nil) hds
          have hup : Ex (Bh hid' own H4) (Bh hid' own (upd H4 D (.lst (acc ++ [y])))) := hide_upd (.inl (.inr rfl))
          refine ⟨acc, hacc4, Evl.sz_lt (by omega), acc ++ [y], ys ++ ds, ?_, upd_same, by simp; omega, ((hys.mono (hide_mono e34)).app hd1).mono hup, ?_⟩
          · exact Evl.Ex.mut (e2.trans e34) hD
          · simpa using p4
        · exact p4.elim
  · have hn2 : n = xs.length := by omega
    subst hn2
    rw [List.drop_of_length_le (by unfold rowsD; rw [List.length_map]; exact Nat.le_refl _)] at hp
    have hp2 : Pd ys := by simpa [wComp] using hp
    refine .inl ⟨hJ.stop H' (hide_ex.trans e2), k _ _ H' hp2 (e1.trans e2) (.lst ((hide_of (fun z => nD z)).trans hacc) (hys.mono hBD))⟩⟩
/-! any, max, sum of ints, str of an int -/
def fAny : WC := fun ss P => match ss with
  | [.d (.list a)] => ∃ bs : List Bool, a = bs.map .bool ∧ P (.d (.bool (bs.any id)))
  | _ => False
instance dc_any {K : PySem.W.Frag} : DC (rAny K) fAny := ⟨fun hid own H vs ss P Q ho q hf k => by
  unfold fAny at hf
  split at hf
  · obtain ⟨v, rfl, r⟩ := rb1 q
    obtain ⟨a, vs, rfl, h1, t1⟩ := r.list
    obtain ⟨bs, rfl, hp⟩ := hf
    have e := t1.bools
    subst e
    exact ⟨a, bs, rfl, SqL.of h1, k _ _ H hp (Evl.Ex.refl H) (.bl _)⟩
  · exact hf.elim⟩
def rMaxX (K : PySem.W.Frag) : List V → Hp → VK → Prop := fun vs H Q => rMax K vs H Q ∨ (∃ i j, vs = [.int i, .int j] ∧ Q (.int (if j > i then j else i)) H)
theorem k_maxX {X : Cx} {K : PySem.W.Frag} (hK : X.K = K) (hc : X.calm = true) : CallR X (.builtin "max") (rMaxX K) := by
  intro pn s0 st G xs us Q J r h
  rcases h with h | h
  · subst hK
    exact cr_max hc pn s0 st G xs us Q J r h
  · exact call_max2 hc pn s0 st G xs us Q J r h
def fMax : WC := fun ss P => match ss with
  | [.d (.list a)] => asIs a fun ns => ns ≠ [] ∧ ∀ m, m ∈ ns → (∀ y ∈ ns, y ≤ m) → P (.d (.int m))
  | [.d (.int i), .d (.int j)] => P (.d (.int (if j > i then j else i)))
  | _ => False
instance dc_max {K : PySem.W.Frag} : DC (rMaxX K) fMax := ⟨fun hid own H vs ss P Q ho q hf k => by
  unfold fMax at hf
  split at hf
  · obtain ⟨v, rfl, r⟩ := rb1 q
    obtain ⟨a, vs, rfl, h1, t1⟩ := r.list
    unfold asIs at hf
    split at hf
    · rename_i ns hn
      have e := t1.ints hn
      subst e
      exact .inl ⟨a, ns, rfl, SqL.of h1, List.length_pos_iff.mpr hf.1, fun m hm hy => k _ _ H (hf.2 m hm hy) (Evl.Ex.refl H) (.int _)⟩
    · exact hf.elim
  · obtain ⟨v, v2, rfl, r, r2⟩ := rb2 q
    rw [r.int, r2.int]
    exact .inr ⟨_, _, rfl, k _ _ H hf (Evl.Ex.refl H) (.int _)⟩
  · exact hf.elim⟩
theorem k_sumX {X : Cx} {K : PySem.W.Frag} (hK : X.K = K) (hc : X.calm = true) : CallR X (.builtin "sum") (rSum K) := by
  subst hK
  exact cr_sum hc
def fSum : WC := fun ss P => match ss with
  | [.d (.list a)] => asIs a fun ns => P (.d (.int ns.sum))
  | _ => False
instance dc_sum {K : PySem.W.Frag} : DC (rSum K) fSum := ⟨fun hid own H vs ss P Q ho q hf k => by
  unfold fSum at hf
  split at hf
  · obtain ⟨v, rfl, r⟩ := rb1 q
    obtain ⟨a, vs, rfl, h1, t1⟩ := r.list
    unfold asIs at hf
    split at hf
    · rename_i ns hn
      have e := t1.ints hn
      subst e
      exact ⟨a, ns, rfl, SqL.of h1, k _ _ H hf (Evl.Ex.refl H) (.int _)⟩
    · exact hf.elim
  · exact hf.elim⟩
def rStrI : List V → Hp → VK → Prop := fun xs H Q => ∃ i, xs = [.int i] ∧ i.natAbs.log2 < 1920 ∧ Q (.str (toString i)) H
theorem k_strX {X : Cx} : CallR X (.type "str") rStrI := call_str_int
def fStr : WC := fun ss P => match ss with
  | [.d (.int i)] => i.natAbs.log2 < 1920 ∧ P (.d (.str (toString i)))
  | _ => False
instance dc_str : DC rStrI fStr := ⟨fun hid own H vs ss P Q ho q hf k => by
  unfold fStr at hf
  split at hf
  · obtain ⟨v, rfl, r⟩ := rb1 q
    rw [r.int]
    exact ⟨_, rfl, hf.1, k _ _ H hf.2 (Evl.Ex.refl H) (.str _)⟩
  · exact hf.elim⟩
def wForWX (i : WIW) (g : WG) (b : PX → WS) : PX → WS := fun xp E ρ => i ρ fun xs => wFor g (b xp) (rowsD xs) E ρ
instance lsx_forW {E : XK} {wi : TI} {K : PySem.W.Frag} {n : Nat} {g : TGs} {tb : TS} {js : List Nat} {i : WIW} {wg : WGs} {b : PX → WS} [hi : LIW wi i] [hg : LGs g js wg] [hb : LSX E tb b] : LSX E (tFor wi (gTup K n g) tb) (wForWX i (wgTup n wg) b) := ⟨fun hs hid D Ed own H σ ρ xp k x r hw => by
  refine hi.go hs hid own H σ ρ _ _ r hw fun xs J H1 p e1 hJ => ?_
  have r1 := r.mono e1
  let hs1 : Hp := hide (fun a => ∃ j, own j = some a) H1
  have hss : Ex hs hs1 := fun a o h => (hide_of (fun ⟨j, z⟩ => by rw [(r1.new j a z).1] at h; cases h)).trans (r1.ex _ _ h)
  have hB1 : Ex (Bh hid own H1) hs1 := hide_le fun a h => .inr h
  have r1' : Rep hs1 hid own H1 σ ρ := ⟨hide_ex, r1.occ, fun j a h => ⟨hide_yes ⟨j, h⟩, (r1.new j a h).2⟩, r1.inj, r1.len, r1.get⟩
  have x1 : XOk hs1 hid E xp := x.mono hss fun _ z => z
  have lr : (rowsD xs).length = xs.length := List.length_map _
  refine ⟨fun m1 m σ' H' => ∃ own' ρ', m = xs.length - m1 ∧ m1 ≤ xs.length ∧ Rep hs1 hid own' H' σ' ρ' ∧ wFor (wgTup n wg) (b xp) ((rowsD xs).drop m1) Ed ρ', ⟨xs.length, own, ρ, rfl, Nat.zero_le _, r1', p⟩, ?_⟩
  rintro m1 m σ' H' ⟨own', ρ', rfl, hn, r', hp⟩
  by_cases hlt : m1 < xs.length
  · have hx : xs[m1]? = some xs[m1] := List.getElem?_eq_getElem hlt
    have hd : (rowsD xs).drop m1 = .d (.tuple xs[m1]) :: (rowsD xs).drop (m1 + 1) := by
      rw [List.drop_eq_getElem_cons (by rw [lr]; exact hlt)]
      congr 1
      exact List.getElem_map _
    rw [hd] at hp
    obtain ⟨hgo, hyld⟩ := hJ.step m1 _ H' (hB1.trans r'.ex) hx
    refine .inr ⟨hgo, fun σ2 H2 => ∃ own2 ρ2, Rep hs1 hid own2 H2 σ2 ρ2 ∧ wFor (wgTup n wg) (b xp) ((rowsD xs).drop (m1 + 1)) Ed ρ2, ?_, ?_⟩
    · rintro σ2 H2 ⟨own2, ρ2, a1, a2⟩
      exact ⟨xs.length - (m1 + 1), by omega, own2, ρ2, rfl, hlt, a1, a2⟩
    · intro y H'' hy
      obtain ⟨T, ws, rfl, hT, rfl, hws⟩ := hyld y H'' hy
      have eN := Evl.Ex.new hT (o := .tup ws)
      have rN := r'.mono eN
      have hws' : DdAll (Bh hid own' (upd H' T (.tup ws))) ws xs[m1] := by
        refine hws.mono fun a o h => ?_
        obtain ⟨h1, h2⟩ := hide_some h
        have h3 : hs1 a = some o := hB1 _ _ h
        refine (hide_of (fun z => ?_)).trans (rN.ex _ _ h3)
        rcases z with z | ⟨j, z⟩
        · exact h1 (.inl z)
        · rw [(r'.new j a z).1] at h3; cases h3
      have hp2 : xs[m1].length = n ∧ wg xs[m1] ρ' (fun ρ2 => b xp { Ed with nx := wFor (wgTup n wg) (b xp) ((rowsD xs).drop (m1 + 1)) Ed, ct := wFor (wgTup n wg) (b xp) ((rowsD xs).drop (m1 + 1)) Ed, bk := Ed.nx } ρ2) := hp
      refine ⟨T, ws, rfl, SqT.of upd_same, by rw [hws'.len]; exact hp2.1, hg.go hs1 hid own' _ σ' ρ' _ _ _ _ rN hws' hp2.2 fun σ2 ρ2 p2 r2 _ => ?_⟩
      refine hb.go hs1 hid _ { Ed with nx := wFor (wgTup n wg) (b xp) ((rowsD xs).drop (m1 + 1)) Ed, ct := wFor (wgTup n wg) (b xp) ((rowsD xs).drop (m1 + 1)) Ed, bk := Ed.nx } own' _ σ2 ρ2 xp ⟨fun own H σ ρ p r => ⟨own, ρ, r, p⟩, fun own H σ ρ p r => k.nx own H σ ρ p (r.start hss), fun own H σ ρ p r => ⟨own, ρ, r, p⟩, fun s v H p e q => k.rt s v H p (hss.trans e) q⟩ x1 r2 p2
  · have hn2 : m1 = xs.length := by omega
    subst hn2
    rw [List.drop_of_length_le (by rw [lr]; exact Nat.le_refl _)] at hp
    exact .inl ⟨hJ.stop H' (hB1.trans r'.ex), k.nx own' H' σ' ρ' hp (r'.start hss)⟩⟩
/-! x, y = (e, a new list of one's own) -/
def wPar01 (i j : Nat) (a : WE) (b : Ro → (List PyData → Prop) → Prop) : WS := fun E ρ => a ρ fun x => b ρ fun ys => E.nx ((ρ.set i (some x)).set j (some (.own ys)))
instance ls_par01 {i j : Nat} {ta tb : TE} {a : WE} {b : Ro → (List PyData → Prop) → Prop} [ha : LE ta a] [hb : LF tb b] : LS (tPar01 i j (tCons ta (tCons tb tNil))) (wPar01 i j a b) := ⟨fun hs hid D E own H σ ρ k r hw => by
  refine ha.go hs hid own H σ ρ _ _ r hw fun s v H1 p1 e1 q1 => ?_
  have r1 := r.mono e1
  refine hb.go hs hid own H1 σ ρ _ _ r1 p1 fun ys p vs H2 p2 e2 n2 h2 t2 => ?_
  exact ⟨_, _, rfl, k.nx _ _ _ _ p2 ((r1.put i q1).own_new j e2 n2 h2 t2)⟩⟩
end Lr

namespace Lr
open PySem L2
theorem q_gv_1 : gv (some (some (.d x))) P = (P (.d x)) := rfl
theorem q_gv_2 : gv (some (some (.o m))) P = (P (.o m)) := rfl
theorem q_gv_3 : gv (some (some (.ty n))) P = (P (.ty n)) := rfl
theorem q_gv_4 : gv (some (some (.ref a))) P = (P (.ref a)) := rfl
theorem q_gbp_1 : gb' (some (some (.d x))) P = (P (.d x)) := rfl
theorem q_gbp_2 : gb' (some (some (.o m))) P = (P (.o m)) := rfl
theorem q_gbp_3 : gb' (some (some (.ty n))) P = (P (.ty n)) := rfl
theorem q_gbp_4 : gb' (some (some (.ref a))) P = (P (.ref a)) := rfl
theorem q_gbp_5 : gb' (some (some (.own ds))) P = (P (.d (.list ds))) := rfl
theorem q_gbp_6 : gb' (some (some (.ln i j ds))) P = (P (.d (.list ds))) := rfl
theorem q_fI_1 : fI C g (.d (.int i)) (.d (.int j)) P = (C i j ∧ P (.d (g i j))) := rfl
theorem q_fI0_1 : fI0 g (.d (.int i)) (.d (.int j)) P = (P (.d (g i j))) := rfl
theorem q_fAdd_1 : fAdd (.d (.int i)) (.d (.int j)) P = (P (.d (.int (i + j)))) := rfl
theorem q_fAdd_2 : fAdd (.d (.str a)) (.d (.str b)) P = (a.length + b.length ≤ 100000 ∧ P (.d (.str (a ++ b)))) := rfl
theorem q_fAdd_3 : fAdd (.d (.list a)) (.d (.list b)) P = (a.length + b.length ≤ 100000 ∧ P (.d (.list (a ++ b)))) := rfl
theorem q_fAdd_4 : fAdd (.d (.tuple a)) (.d (.tuple b)) P = (a.length + b.length ≤ 100000 ∧ P (.d (.tuple (a ++ b)))) := rfl
theorem q_fEq_1 : fEq (.d a) (.d b) P = (shp a = true ∧ shp b = true ∧ P (.d (.bool (PyData.eqv a b)))) := rfl
theorem q_fNe_1 : fNe (.d a) (.d b) P = (shp a = true ∧ shp b = true ∧ P (.d (.bool (!PyData.eqv a b)))) := rfl
theorem q_fIn_1 : fIn neg (.d a) (.d (.list b)) P = (shp a = true ∧ shp (.list b) = true ∧ P (.d (.bool (neg != b.any fun e => PyData.eqv e a)))) := rfl
theorem q_fIn_2 : fIn neg (.d a) (.d (.tuple b)) P = (shp a = true ∧ shp (.list b) = true ∧ P (.d (.bool (neg != b.any fun e => PyData.eqv e a)))) := rfl
theorem q_fIx_1 : fIx (.d (.list a)) (.d (.int i)) P = (∃ d, L2.atI a i = some d ∧ P (.d d)) := rfl
theorem q_fIx_2 : fIx (.d (.tuple a)) (.d (.int i)) P = (∃ d, L2.atI a i = some d ∧ P (.d d)) := rfl
theorem q_fIx_3 : fIx (.d (.str a)) (.d (.int i)) P = (a.length ≤ 100000 ∧ ∃ c, L2.atI a.cps.toList i = some c ∧ P (.d (.str ⟨#[c]⟩))) := rfl
theorem q_fIsN_1 : fIsN neg (.d a) (.d .none) P = (P (.d (.bool (neg != isNone a)))) := rfl
theorem q_fU_1 : fU g (.d (.int i)) P = (P (.d (.int (g i)))) := rfl
theorem q_asB_1 : asB (.d (.bool b)) P = (P b) := rfl
theorem q_asI_1 : asI (.d (.int i)) P = (P i) := rfl
theorem q_fSl_1 : fSl (.d (.list a)) lo hi P = (P (.d (.list (cutD a lo hi)))) := rfl
theorem q_fSl_2 : fSl (.d (.tuple a)) lo hi P = (P (.d (.tuple (cutD a lo hi)))) := rfl
theorem q_fSl_3 : fSl (.d (.str a)) lo hi P = (a.length ≤ 100000 ∧ P (.d (.str (cutS a lo hi)))) := rfl
theorem q_fLen_1 : fLen ([.d (.list a)]) P = (P (.d (.int a.length))) := rfl
theorem q_fLen_2 : fLen ([.d (.tuple a)]) P = (P (.d (.int a.length))) := rfl
theorem q_fLen_3 : fLen ([.d (.str a)]) P = (a.length ≤ 100000 ∧ P (.d (.int a.length))) := rfl
theorem q_fLen_4 : fLen ([.d (.dict a)]) P = (P (.d (.int a.length))) := rfl
theorem q_fIsi_1 : fIsi ([.d a, .ty T]) P = (T ∈ ["str", "int", "bool", "tuple", "list", "dict"] ∧ P (.d (.bool (isiD T a)))) := rfl
theorem q_itD_1 : itD (.d (.list a)) P = (P (a.map .d)) := rfl
theorem q_itD_2 : itD (.d (.tuple a)) P = (P (a.map .d)) := rfl
theorem q_itD_3 : itD (.d (.str a)) P = (P (chs a)) := rfl
theorem q_asR1_1 : asR1 ([.d (.int j)]) P = (-1000000 ≤ j ∧ j ≤ 1000000 ∧ P (rgD 0 j.toNat)) := rfl
theorem q_asR2_1 : asR2 ([.d (.int i), .d (.int j)]) P = (-1000000 ≤ i ∧ i ≤ 1000000 ∧ -1000000 ≤ j ∧ j ≤ 1000000 ∧ P (rgD i (j - i).toNat)) := rfl
theorem q_wgCons_1 : wgCons a b (x :: r) ρ P = (a (.d x) ρ fun ρ' => b r ρ' P) := rfl
theorem q_wgCons_2 : wgCons a b ([]) ρ P = (False) := rfl
theorem q_wgTup_1 : wgTup n b (.d (.tuple ds)) ρ P = (ds.length = n ∧ b ds ρ P) := rfl
theorem q_as2_1 : as2 ([a, b]) P = (P a b) := rfl
theorem q_as3_1 : as3 ([a, b, c]) P = (P a b c) := rfl
theorem q_gown_1 : gown (some (some (.own ds))) P = (P ds) := rfl
theorem q_fLstOf_1 : fLstOf ([.d (.list a)]) P = (P a) := rfl
theorem q_fLstOf_2 : fLstOf ([.d (.tuple a)]) P = (P a) := rfl
theorem q_fTupOf_1 : fTupOf ([.d (.list a)]) P = (P (.d (.tuple a))) := rfl
theorem q_fTupOf_2 : fTupOf ([.d (.tuple a)]) P = (P (.d (.tuple a))) := rfl
theorem q_asD_1 : asD (.d d) P = (P d) := rfl
theorem q_fMul_1 : fMul (.d (.int i)) (.d (.int j)) P = (CMulW i j ∧ P (.d (.int (i * j)))) := rfl
theorem q_fMul_2 : fMul (.d (.list a)) (.d (.int k)) P = (-1000000 ≤ k ∧ k ≤ 1000000 ∧ a.length * k.toNat ≤ 100000 ∧ P (.d (.list (List.replicate k.toNat a).flatten))) := rfl
theorem q_fMul_3 : fMul (.d (.tuple a)) (.d (.int k)) P = (a ≠ [] ∧ 2 ≤ k ∧ k ≤ 1000 ∧ a.length ≤ 1000 ∧ P (.d (.tuple (List.replicate k.toNat a).flatten))) := rfl
theorem q_fInt_1 : fInt ([.d (.int i)]) P = (P (.d (.int i))) := rfl
theorem q_fInt_2 : fInt ([.d (.bool b)]) P = (P (.d (.int (if b then 1 else 0)))) := rfl
theorem q_fRepr_1 : fRepr ([.d d]) P = (Fit d ∧ P (.d (.str d.shown))) := rfl
theorem q_fMin_1 : fMin ([.d (.list a)]) P = (asIs a fun ns => ns ≠ [] ∧ ∀ m, m ∈ ns → (∀ y ∈ ns, m ≤ y) → P (.d (.int m))) := rfl
theorem q_fMin_2 : fMin ([.d (.int i), .d (.int j)]) P = (P (.d (.int (if j < i then j else i)))) := rfl
theorem q_fAll_1 : fAll ([.d (.list a)]) P = (∃ bs : List Bool, a = bs.map .bool ∧ P (.d (.bool (bs.all id)))) := rfl
theorem q_asSeq_1 : asSeq (.d (.list ds)) P = (P ds) := rfl
theorem q_asSeq_2 : asSeq (.d (.tuple ds)) P = (P ds) := rfl
theorem q_asL_1 : asL (.d (.list ds)) P = (P ds) := rfl
theorem q_fNil_1 : fNil neg (.d (.list a)) (.d (.list [])) P = (P (.d (.bool (neg != a.isEmpty)))) := rfl
theorem q_fNil_2 : fNil neg (.d (.tuple a)) (.d (.tuple [])) P = (P (.d (.bool (neg != a.isEmpty)))) := rfl
theorem q_fEqS_1 : fEqS (.d (.str a)) (.d (.str b)) P = (P (.d (.bool (decide (a = b))))) := rfl
theorem q_fNeS_1 : fNeS (.d (.str a)) (.d (.str b)) P = (P (.d (.bool (!decide (a = b))))) := rfl
theorem q_asTu_1 : asTu (.d (.tuple ds)) P = (P ds) := rfl
theorem q_fSort_1 : fSort ([.d (.tuple a)]) P = (asIs a fun ns => ns.length < 64 ∧ ∀ ys : List Int, ys.Perm ns → ys.Pairwise (· ≤ ·) → P (.d (.list (ys.map .int)))) := rfl
theorem q_fSort_2 : fSort ([.d (.list a)]) P = (asIs a fun ns => ns.length < 64 ∧ ∀ ys : List Int, ys.Perm ns → ys.Pairwise (· ≤ ·) → P (.d (.list (ys.map .int)))) := rfl
theorem q_fAny_1 : fAny ([.d (.list a)]) P = (∃ bs : List Bool, a = bs.map .bool ∧ P (.d (.bool (bs.any id)))) := rfl
theorem q_fMax_1 : fMax ([.d (.list a)]) P = (asIs a fun ns => ns ≠ [] ∧ ∀ m, m ∈ ns → (∀ y ∈ ns, y ≤ m) → P (.d (.int m))) := rfl
theorem q_fMax_2 : fMax ([.d (.int i), .d (.int j)]) P = (P (.d (.int (if j > i then j else i)))) := rfl
theorem q_fSum_1 : fSum ([.d (.list a)]) P = (asIs a fun ns => P (.d (.int ns.sum))) := rfl
theorem q_fStr_1 : fStr ([.d (.int i)]) P = (i.natAbs.log2 < 1920 ∧ P (.d (.str (toString i)))) := rfl
theorem asDs_nil {P : List PyData → Prop} : asDs [] P = P [] := rfl
theorem asDs_cons {x : PyData} {r : List SV} {P : List PyData → Prop} : asDs (.d x :: r) P = asDs r fun ds => P (x :: ds) := by
  unfold asDs
  rw [allD]
  cases allD r <;> rfl
theorem asDs_map {P : List PyData → Prop} : ∀ ds : List PyData, asDs (ds.map SV.d) P = P ds
  | [] => rfl
  | d :: r => by rw [List.map_cons, asDs_cons, asDs_map r]
theorem asIs_ints {P : List Int → Prop} (ns : List Int) : asIs (ns.map PyData.int) P = P ns := by
  unfold asIs
  rw [allI_ints]
end Lr

namespace Lr
open PySem L2
/-! ### the readings from the head: what is behind is looked at once -/
def getK (ρ : Ro) (i : Nat) (P : SV → Prop) : Prop := gv ρ[i]? P
def getB (ρ : Ro) (i : Nat) (P : SV → Prop) : Prop := gb' ρ[i]? P
def getO (ρ : Ro) (i : Nat) (P : List PyData → Prop) : Prop := gown ρ[i]? P
def setK (ρ : Ro) (i : Nat) (s : Option SV) (P : Ro → Prop) : Prop := P (ρ.set i s)
def wipeK (ρ : Ro) (vs : List Nat) (P : Ro → Prop) : Prop := P (wipeR ρ vs)
section
variable {ρ r : Ro} {i j l n : Nat} {P : SV → Prop} {R : Ro → Prop} {Q : List PyData → Prop} {x : Option SV} {s : Option SV} {d : PyData} {m : Mo} {t : String} {a : Addr} {ds : List PyData} {E : PEnds} {e : WE} {xp : PX}
theorem k_var : wVar i ρ P = getK ρ i P := rfl
theorem k_varB : wVarB i ρ P = getB ρ i P := rfl
theorem getK_s : getK (x :: r) (n + 1) P = getK r n P := rfl
theorem getK_d : getK (some (.d d) :: r) 0 P = P (.d d) := rfl
theorem getK_o : getK (some (.o m) :: r) 0 P = P (.o m) := rfl
theorem getK_t : getK (some (.ty t) :: r) 0 P = P (.ty t) := rfl
theorem getK_r : getK (some (.ref a) :: r) 0 P = P (.ref a) := rfl
theorem getB_s : getB (x :: r) (n + 1) P = getB r n P := rfl
theorem getB_d : getB (some (.d d) :: r) 0 P = P (.d d) := rfl
theorem getB_o : getB (some (.o m) :: r) 0 P = P (.o m) := rfl
theorem getB_t : getB (some (.ty t) :: r) 0 P = P (.ty t) := rfl
theorem getB_r : getB (some (.ref a) :: r) 0 P = P (.ref a) := rfl
theorem getB_w : getB (some (.own ds) :: r) 0 P = P (.d (.list ds)) := rfl
theorem getO_s : getO (x :: r) (n + 1) Q = getO r n Q := rfl
theorem getO_w : getO (some (.own ds) :: r) 0 Q = Q ds := rfl
theorem setK_s : setK (x :: r) (n + 1) s R = setK r n s fun r' => R (x :: r') := rfl
theorem setK_0 : setK (x :: r) 0 s R = R (s :: r) := rfl
theorem wipeK_n : wipeK ρ [] R = R ρ := rfl
theorem wipeK_c {v : Nat} {vs : List Nat} : wipeK ρ (v :: vs) R = wipeK ρ vs fun ρ' => setK ρ' v none R := rfl
theorem k_name {y : SV} : wName i y ρ R = setK ρ i (some y) R := rfl
theorem k_lc {wi : WI} {g : WG} {c : WT} {vs : List Nat} : wLc wi g c e vs ρ P = wi ρ fun xs => xs.length ≤ 100000 ∧ wipeK ρ vs fun ρ' => wComp g c e ρ' xs fun ys => P (.d (.list ys)) := rfl
theorem k_lcW {wi : WIW} {g : WG} {c : WT} {vs : List Nat} : wLcW wi g c e vs ρ P = wi ρ fun xs => xs.length ≤ 100000 ∧ wipeK ρ vs fun ρ' => wComp g c e ρ' (rowsD xs) fun ys => P (.d (.list ys)) := rfl
theorem k_aug {f : Int → Int → Int} : wAug i f e E ρ = getK ρ i fun x => asI x fun a => e ρ fun y => asI y fun b => setK ρ i (some (.d (.int (f a b)))) E.nx := rfl
theorem k_own {w : Ro → (List PyData → Prop) → Prop} : wOwn i w E ρ = w ρ fun ds => setK ρ i (some (.own ds)) E.nx := rfl
theorem k_app : wApp i e E ρ = getO ρ i fun ds => ds.length < 100000 ∧ e ρ fun y => asDs [y] fun d => setK ρ i (some (.own (ds ++ d))) E.nx := rfl
theorem k_rem : wRem i e E ρ = getO ρ i fun ds => asIs ds fun ns => e ρ fun y => asI y fun k => k ∈ ns ∧ setK ρ i (some (.own ((ns.erase k).map .int))) E.nx := rfl
theorem k_rel {w : WS} : wRel i w E ρ = getO ρ i fun ds => setK ρ i (some (.d (.list ds))) fun ρ' => w E ρ' := rfl
theorem k_relX {w : PX → WS} : wRelX i w xp E ρ = getO ρ i fun ds => setK ρ i (some (.d (.list ds))) fun ρ' => w xp E ρ' := rfl
theorem k_par {w : WA} : wPar i j w E ρ = w ρ fun ss => as2 ss fun x y => setK ρ i (some x) fun ρ' => setK ρ' j (some y) E.nx := rfl
theorem k_par3 {w : WA} : wPar3 i j l w E ρ = w ρ fun ss => as3 ss fun x y z => setK ρ i (some x) fun ρ' => setK ρ' j (some y) fun ρ2 => setK ρ2 l (some z) E.nx := rfl
theorem k_par01 {a : WE} {b : Ro → (List PyData → Prop) → Prop} : wPar01 i j a b E ρ = a ρ fun x => b ρ fun ys => setK ρ i (some x) fun ρ' => setK ρ' j (some (.own ys)) E.nx := rfl
theorem k_par11 {a b : Ro → (List PyData → Prop) → Prop} : wPar11 i j a b E ρ = (i ≠ j ∧ a ρ fun xs => b ρ fun ys => setK ρ i (some (.own xs)) fun ρ' => setK ρ' j (some (.own ys)) E.nx) := rfl
theorem k_put {a b : WE} : wPut i a b E ρ = getO ρ i fun ds => a ρ fun y => asD y fun d => b ρ fun n => asI n fun j => ∃ m, ixN ds.length j = some m ∧ setK ρ i (some (.own (ds.set m d))) E.nx := rfl
theorem k_appPop : wAppPop i j e E ρ = (i ≠ j ∧ getO ρ i fun ds => getO ρ j fun es => ds.length < 100000 ∧ e ρ fun x => asI x fun m => 0 ≤ m ∧ m ≤ 1000000 ∧ ∃ d, es[m.toNat]? = some d ∧ setK ρ j (some (.own (es.eraseIdx m.toNat))) fun ρ' => setK ρ' i (some (.own (ds ++ [d]))) E.nx) := rfl
theorem k_try {K : PySem.W.Frag} {c : Value} {R : RX} {w : WA} {ws : Addr → Value → Option Addr → WS} : wTry K c i j n R w ws E ρ = w ρ fun ss => ss.length = n ∧ R ss (fun s => setK ρ j (some s) E.nx) fun x => PySem.W.exmOne K (.ref x.C) c = some true ∧ ∀ er d, setK ρ i (some (.o (catM er d x))) fun ρ2 => ws er (.ref x.C) d { nx := fun ρ' => setK ρ' i none E.nx, rt := E.rt, bk := fun ρ' => setK ρ' i none E.bk, ct := fun ρ' => setK ρ' i none E.ct } ρ2 := rfl
theorem ite_tt {A B : Prop} : (if true = true then A else B) = A := if_pos rfl
theorem ite_ff {A B : Prop} : (if false = true then A else B) = B := if_neg (by decide)
end
end Lr

namespace Lr
open PySem L2
/-! ### one item of a comprehension -/
def wStep (g : WG) (c : WT) (e : WE) (ρ : Ro) (x : SV) (K : Option PyData → Prop) : Prop := g x ρ fun ρ' => c ρ' fun b => if b = true then e ρ' (fun y => asD y fun d => K (some d)) else K none
section
variable {g : WG} {c : WT} {e : WE} {ρ : Ro}
theorem asDs_one {y : SV} {P : List PyData → Prop} : asDs [y] P = asD y fun d => P [d] := by
  cases y <;> rfl
theorem comp_cons {x : SV} {r : List SV} {P : List PyData → Prop} : wComp g c e ρ (x :: r) P = wStep g c e ρ x fun o => wComp g c e ρ r fun ys => P (o.toList ++ ys) := by
  unfold wStep
  rw [wComp]
  simp only [asDs_one, Option.toList_some, Option.toList_none, List.nil_append]
theorem comp_det {xs : List SV} (f : SV → Option PyData) {P : List PyData → Prop} (h : ∀ x ∈ xs, ∀ K : Option PyData → Prop, K (f x) → wStep g c e ρ x K) (hp : P (xs.filterMap f)) : wComp g c e ρ xs P := by
  induction xs generalizing P with
  | nil => exact hp
  | cons x r ih =>
    rw [comp_cons]
    refine h x (by simp) _ (ih (fun y hy => h y (by simp [hy])) ?_)
    cases q : f x <;> simpa [List.filterMap_cons, q] using hp
/-- over data -/
theorem comp_d {ds : List PyData} (f : PyData → Option PyData) {P : List PyData → Prop} (h : ∀ d ∈ ds, ∀ K : Option PyData → Prop, K (f d) → wStep g c e ρ (.d d) K) (hp : P (ds.filterMap f)) : wComp g c e ρ (ds.map SV.d) P := by
  induction ds generalizing P with
  | nil => exact hp
  | cons x r ih =>
    rw [List.map_cons, comp_cons]
    refine h x (by simp) _ (ih (fun y hy => h y (by simp [hy])) ?_)
    cases q : f x <;> simpa [List.filterMap_cons, q] using hp
theorem comp_dm {ds : List PyData} (f : PyData → PyData) {P : List PyData → Prop} (h : ∀ d ∈ ds, ∀ K : Option PyData → Prop, K (some (f d)) → wStep g c e ρ (.d d) K) (hp : P (ds.map f)) : wComp g c e ρ (ds.map SV.d) P :=
  comp_d (fun d => some (f d)) h (by rw [List.filterMap_eq_map' (f := f)]; exact hp)
theorem comp_df {ds : List PyData} (t : PyData → Bool) {P : List PyData → Prop} (h : ∀ d ∈ ds, ∀ K : Option PyData → Prop, K (if t d = true then some d else none) → wStep g c e ρ (.d d) K) (hp : P (ds.filter t)) : wComp g c e ρ (ds.map SV.d) P := by
  refine comp_d (fun d => if t d = true then some d else none) h ?_
  have e : ds.filterMap (fun d => if t d = true then some d else none) = ds.filter t := by
    rw [← List.filterMap_eq_filter]
    rfl
  rw [e]
  exact hp
theorem fm_if {α β : Type} (t : α → Bool) (f : α → β) : ∀ l : List α, l.filterMap (fun d => if t d = true then some (f d) else none) = (l.filter t).map f
  | [] => rfl
  | x :: r => by
    have ih := fm_if t f r
    cases q : t x <;> simp [List.filterMap_cons, q, ih]
/-- over ints -/
theorem comp_i {ns : List Int} (f : Int → Option PyData) {P : List PyData → Prop} (h : ∀ n ∈ ns, ∀ K : Option PyData → Prop, K (f n) → wStep g c e ρ (.d (.int n)) K) (hp : P (ns.filterMap f)) : wComp g c e ρ ((ns.map PyData.int).map SV.d) P := by
  induction ns generalizing P with
  | nil => exact hp
  | cons x r ih =>
    rw [List.map_cons, List.map_cons, comp_cons]
    refine h x (by simp) _ (ih (fun y hy => h y (by simp [hy])) ?_)
    cases q : f x <;> simpa [List.filterMap_cons, q] using hp
theorem comp_im {ns : List Int} (f : Int → PyData) {P : List PyData → Prop} (h : ∀ n ∈ ns, ∀ K : Option PyData → Prop, K (some (f n)) → wStep g c e ρ (.d (.int n)) K) (hp : P (ns.map f)) : wComp g c e ρ ((ns.map PyData.int).map SV.d) P :=
  comp_i (fun d => some (f d)) h (by rw [List.filterMap_eq_map' (f := f)]; exact hp)
theorem comp_if {ns : List Int} (t : Int → Bool) {P : List PyData → Prop} (h : ∀ n ∈ ns, ∀ K : Option PyData → Prop, K (if t n = true then some (.int n) else none) → wStep g c e ρ (.d (.int n)) K) (hp : P ((ns.filter t).map PyData.int)) : wComp g c e ρ ((ns.map PyData.int).map SV.d) P := by
  refine comp_i (fun d => if t d = true then some (.int d) else none) h ?_
  rw [fm_if t PyData.int ns]
  exact hp
/-- whatever comes, of one kind -/
theorem comp_any {xs : List SV} (M : PyData → Prop) {P : List PyData → Prop} (h : ∀ x ∈ xs, ∀ K : Option PyData → Prop, (∀ d, M d → K (some d)) → wStep g c e ρ x K) (hp : ∀ ys, ys.length = xs.length → (∀ y ∈ ys, M y) → P ys) : wComp g c e ρ xs P := by
  induction xs generalizing P with
  | nil => exact hp [] rfl (fun y hy => by cases hy)
  | cons x r ih =>
    rw [comp_cons]
    refine h x (by simp) _ fun d hd => ih (fun y hy => h y (by simp [hy])) fun ys hl hy => ?_
    refine hp (d :: ys) (by simp [hl]) fun y hm => ?_
    rcases List.mem_cons.mp hm with rfl | hm
    · exact hd
    · exact hy y hm
end
theorem rgD_eq (lo : Int) (n : Nat) : rgD lo n = ((rgI lo (lo + n)).map PyData.int).map SV.d := by
  unfold rgD rgI
  rw [List.map_map, List.map_map]
  have : (lo + (n : Int) - lo).toNat = n := by omega
  rw [this]
  rfl
theorem rgI_upto (n : Nat) : rgI 0 n = upto n := by
  unfold rgI upto
  have : ((n : Int) - 0).toNat = n := by omega
  rw [this]
  apply List.map_congr_left
  intro k _
  show 0 + (k : Int) = Int.ofNat k
  rw [Int.zero_add]
  rfl
theorem rgD_upto (n : Nat) : rgD 0 n = ((upto n).map PyData.int).map SV.d := by
  rw [rgD_eq, Int.zero_add, rgI_upto]
/-! ### loops -/
theorem for_inv {g : WG} {b : WS} {xs : List SV} {E : PEnds} {ρ : Ro} (I : Nat → Ro → Prop) (h0 : I 0 ρ)
    (hs : ∀ i x ρ', xs[i]? = some x → I i ρ' → ∀ N : Ro → Prop, (∀ ρ2, I (i + 1) ρ2 → N ρ2) → g x ρ' fun ρ2 => b { E with nx := N, ct := N, bk := E.nx } ρ2) (hd : ∀ ρ', I xs.length ρ' → E.nx ρ') : wFor g b xs E ρ := by
  have key : ∀ (n : Nat) (ρ : Ro), n ≤ xs.length → I n ρ → wFor g b (xs.drop n) E ρ := by
    intro n
    induction h : xs.length - n generalizing n with
    | zero =>
      intro ρ hn hi
      have e : n = xs.length := by omega
      subst e
      rw [List.drop_length]
      exact hd ρ hi
    | succ m ih =>
      intro ρ hn hi
      have lt : n < xs.length := by omega
      rw [List.drop_eq_getElem_cons lt]
      exact hs n xs[n] ρ (List.getElem?_eq_getElem lt) hi _ fun ρ2 h2 => ih (n + 1) (by omega) ρ2 (by omega) h2
  have := key 0 ρ (Nat.zero_le _) h0
  simpa using this
/-- for .. : if bad: return r; behind it nothing has changed but the loop's own slots -/
theorem for_all {g : WG} {b : WS} {xs : List SV} {E : PEnds} {ρ : Ro} (I : Ro → Prop) (h0 : I ρ)
    (hs : ∀ x ∈ xs, ∀ ρ', I ρ' → ∀ N : Ro → Prop, (∀ ρ2, I ρ2 → N ρ2) → g x ρ' fun ρ2 => b { E with nx := N, ct := N, bk := E.nx } ρ2) (hd : ∀ ρ', I ρ' → E.nx ρ') : wFor g b xs E ρ :=
  for_inv (fun _ => I) h0 (fun i x ρ' hx hi N hN => hs x (List.mem_of_getElem? hx) ρ' hi N hN) hd
/-! ### what can be compared -/
theorem shp_int (i : Int) : shp (.int i) = true := rfl
theorem shp_bool (b : Bool) : shp (.bool b) = true := rfl
theorem shp_none : shp .none = true := rfl
theorem shp_nil : shp (.list []) = true := rfl
theorem shp_nilT : shp (.tuple []) = true := rfl
theorem dep_ints (ds : List Int) : PyData.depthAll (ds.map PyData.int) ≤ 1 := depth_ints ds
theorem shp_ints (ns : List Int) : shp (.list (ns.map PyData.int)) = true := by
  unfold shp
  have h1 := depth_ints ns
  have h2 : (PyData.list (ns.map PyData.int)).canLay0 = true := by simp only [PyData.canLay0]; exact lay_ints ns
  rw [h2, Bool.true_and]
  refine decide_eq_true ?_
  simp only [PyData.depth]
  omega
theorem shp_intsT (ns : List Int) : shp (.tuple (ns.map PyData.int)) = true := by
  unfold shp
  have h1 := depth_ints ns
  have h2 : (PyData.tuple (ns.map PyData.int)).canLay0 = true := by simp only [PyData.canLay0]; exact lay_ints ns
  rw [h2, Bool.true_and]
  refine decide_eq_true ?_
  simp only [PyData.depth]
  omega
theorem eqv_int (i j : Int) : PyData.eqv (.int i) (.int j) = (i == j) := by simp [PyData.eqv]
theorem any_int (ns : List Int) (i : Int) : ((ns.map PyData.int).any fun e => PyData.eqv e (.int i)) = decide (i ∈ ns) := by
  induction ns with
  | nil => rfl
  | cons n r ih =>
    rw [List.map_cons, List.any_cons, ih, eqv_int]
    by_cases h : n = i
    · subst h; simp
    · have : ¬ i = n := fun z => h z.symm
      simp [h, this]
theorem at_ints {ns : List Int} {i : Int} {n : Int} (h0 : 0 ≤ i) (h : ns[i.toNat]? = some n) : L2.atI (ns.map PyData.int) i = some (.int n) := by
  have e : ((i.toNat : Nat) : Int) = i := by omega
  rw [← e]
  exact atI_nat (by rw [List.getElem?_map, h]; rfl)
theorem at_list {α : Type} {xs : List α} {i : Int} {x : α} (h0 : 0 ≤ i) (h : xs[i.toNat]? = some x) : L2.atI xs i = some x := by
  have e : ((i.toNat : Nat) : Int) = i := by omega
  rw [← e]
  exact atI_nat h
theorem cutD_from {xs : List PyData} {i : Int} (h : 0 ≤ i) : cutD xs (some i) none = xs.drop i.toNat := by
  obtain ⟨k, rfl⟩ : ∃ k : Nat, i = (k : Int) := ⟨i.toNat, by omega⟩
  unfold cutD
  rw [HT.sIx_none, HT.sIx_nat]
  by_cases h : k ≤ xs.length
  · rw [Nat.min_eq_left h, List.take_of_length_le (by simp)]; simp
  · rw [Nat.min_eq_right (by omega)]
    simp
    omega
theorem cutD_to {xs : List PyData} {i : Int} (h : 0 ≤ i) : cutD xs none (some i) = xs.take i.toNat := by
  obtain ⟨k, rfl⟩ : ∃ k : Nat, i = (k : Int) := ⟨i.toNat, by omega⟩
  unfold cutD
  rw [HT.sIx_none, HT.sIx_nat]
  by_cases h : k ≤ xs.length
  · rw [Nat.min_eq_left h]; simp
  · rw [Nat.min_eq_right (by omega)]
    simp [List.take_of_length_le (show xs.length ≤ k by omega)]
theorem rgD_len (lo : Int) (n : Nat) : (rgD lo n).length = n := by unfold rgD; simp
end Lr

namespace Lr
open PySem L2
/-! ### the facts of the classes as answers of the written part -/
def oexB (K : PySem.W.Frag) (C : Addr) : Bool := match K.lookup C with
  | some ⟨.type "type", _, .cls cd, sl⟩ => (match cd.mro, sl.toList with
    | .ref C' :: bm, [_, _, _, _, some (.builtin n), _] => C' == C && n == "ValueError.__new__" && !cd.hasDel && cd.hasDict && PySem.HandSPX.refsVE bm
    | _, _ => false)
  | _ => false
theorem oexB_ok {K : PySem.W.Frag} {C : Addr} (q : oexB K C = true) : ∃ nm qn N bs bm sn sub ab col dd k0 k1 k2 k3 k5, K.lookup C = some (excClassObj nm qn C N bs bm true sn sub ab col dd k0 k1 k2 k3 k5 "ValueError.__new__") ∧ PySem.HandSPX.refsVE bm = true := by
  unfold oexB at q
  split at q
  · rename_i dd cd sl ho
    split at q
    · rename_i C' bm k0 k1 k2 k3 n k5 hm hs
      simp only [Bool.and_eq_true, beq_iff_eq, Bool.not_eq_true'] at q
      obtain ⟨⟨⟨⟨rfl, rfl⟩, hdel⟩, hd⟩, ht⟩ := q
      obtain ⟨nm, bs, mro, ns, qn, hdc, sn, sub, ab, col, del⟩ := cd
      dsimp only at hm hdel hd
      subst hm hdel hd
      have hsl : sl = #[k0, k1, k2, k3, some (.builtin "ValueError.__new__"), k5] := by
        obtain ⟨l⟩ := sl
        simp only at hs
        rw [hs]
      subst hsl
      exact ⟨nm, qn, ns, bs, bm, sn, sub, ab, col, dd, k0, k1, k2, k3, k5, ho, ht⟩
    · cases q
  · cases q
def e1B (K : PySem.W.Frag) (C : Addr) (f : Str) : Bool := oexB K C && (isCB K C && (PySem.W.hasDictIn K C && (decide (PySem.W.findIn K (.ref C) "__setattr__" = some (some (.builtin "object.__setattr__"))) && (decide (PySem.W.typeIn K (.ref C) = some (.type "type")) && (PySem.W.keepIn K (.ref C) && decide (PySem.W.findIn K (.ref C) f = some none))))))
theorem er1_of {P : Program} {w : World} {K : PySem.W.Frag} {mg : Str → Option Value} {base : Heap} {x f : Str} {C fI : Addr} {fd : FuncData} (hm : mg x = some (.ref C)) (h : e1B K C f = true) (iC : PySem.W.findIn K (.ref C) "__init__" = some (some (.ref fI))) (tI : PySem.W.typeIn K (.ref fI) = some (.type "function"))
    (F : FnOk P w K mg base CX0 1 fI fd ["self", f] (spInit K f)) (b : Binds K fd ["self", f] []) : Er1 P w K mg base x C f := by
  obtain ⟨h1, h⟩ := Bool.and_eq_true_iff.mp h
  obtain ⟨h2, h⟩ := Bool.and_eq_true_iff.mp h
  obtain ⟨h3, h⟩ := Bool.and_eq_true_iff.mp h
  obtain ⟨h4, h⟩ := Bool.and_eq_true_iff.mp h
  obtain ⟨h5, h⟩ := Bool.and_eq_true_iff.mp h
  obtain ⟨h6, h7⟩ := Bool.and_eq_true_iff.mp h
  have I := isCB_ok h2
  exact ⟨⟨oexB_ok h1, of_decide_eq_true h4, I.sb, of_decide_eq_true h5, h6⟩, hm, of_decide_eq_true h7, ⟨I.ga, I.gg, I.sb, h3⟩, I, fI, fd, iC, tI, F, b⟩
theorem e1B_is {K : PySem.W.Frag} {C : Addr} {f : Str} (h : e1B K C f = true) : IsC K C := isCB_ok (Bool.and_eq_true_iff.mp (Bool.and_eq_true_iff.mp h).2).1
/-- what the error classes are to each other: n of them are raised, the one at b is the class of all -/
def ersB (K : PySem.W.Frag) (n m b : Nat) (cs : List Addr) (tups : List (List Nat)) : Bool := (List.range n).all fun i =>
  (PySem.W.exmOne K (.ref (cs.getD i 0)) (.ref (cs.getD b 0)) == some true && PySem.W.kitOne K (.ref (cs.getD i 0)) (.type "ValueError") == some true) &&
  (((List.range m).all fun j => PySem.W.kitOne K (.ref (cs.getD i 0)) (.ref (cs.getD j 0)) == some (i == j || j == b)) && tups.all fun t => PySem.W.kitAny K (.ref (cs.getD i 0)) (t.map fun j => Value.ref (cs.getD j 0)) == some (t.contains i))
theorem ersB_ok {K : PySem.W.Frag} {n m b : Nat} {cs : List Addr} {tups : List (List Nat)} (h : ersB K n m b cs tups = true) (i : Nat) (hi : i < n) :
    PySem.W.exmOne K (.ref (cs.getD i 0)) (.ref (cs.getD b 0)) = some true ∧ PySem.W.kitOne K (.ref (cs.getD i 0)) (.type "ValueError") = some true ∧ (∀ j < m, PySem.W.kitOne K (.ref (cs.getD i 0)) (.ref (cs.getD j 0)) = some (i == j || j == b)) ∧
      ∀ t ∈ tups, PySem.W.kitAny K (.ref (cs.getD i 0)) (t.map fun j => Value.ref (cs.getD j 0)) = some (t.contains i) := by
  have q := List.all_eq_true.mp h i (List.mem_range.mpr hi)
  obtain ⟨q1, q2⟩ := Bool.and_eq_true_iff.mp q
  obtain ⟨q3, q4⟩ := Bool.and_eq_true_iff.mp q1
  obtain ⟨q5, q6⟩ := Bool.and_eq_true_iff.mp q2
  exact ⟨beq_iff_eq.mp q3, beq_iff_eq.mp q4, fun j hj => beq_iff_eq.mp (List.all_eq_true.mp q5 j (List.mem_range.mpr hj)), fun t ht => beq_iff_eq.mp (List.all_eq_true.mp q6 t ht)⟩
def e0B (K : PySem.W.Frag) (C : Addr) : Bool := (PySem.W.excIn K C PySem.HandSPX.veTail "ValueError.__new__" && isCB K C) && (PySem.W.keepIn K (.ref C) && decide (PySem.W.typeIn K (.ref C) = some (.type "type")))
theorem er0_of {K : PySem.W.Frag} {mg : Str → Option Value} {x : Str} {C : Addr} (hm : mg x = some (.ref C)) (h : e0B K C = true) : Er0 K mg x C ∧ PySem.W.typeIn K (.ref C) = some (.type "type") ∧ IsC K C := by
  obtain ⟨h1, h2⟩ := Bool.and_eq_true_iff.mp h
  obtain ⟨h3, h4⟩ := Bool.and_eq_true_iff.mp h1
  obtain ⟨h5, h6⟩ := Bool.and_eq_true_iff.mp h2
  exact ⟨⟨hm, h5, h3, isCB_ok h4⟩, of_decide_eq_true h6, isCB_ok h4⟩
/-! ### the law's own beginning -/
def scrM (K : PySem.W.Frag) : Mo := ⟨fun H v => ∃ (a : Addr) (ns : List Int), v = .ref a ∧ SqL K H a (ns.map V.int) ∧ ns.length ≤ 63, fun e h => by obtain ⟨a, ns, h1, h2, h3⟩ := h; exact ⟨a, ns, h1, Evl.ex_l e h2, h3⟩⟩
def RLaw (K : PySem.W.Frag) : RR := fun ss Pd => ss = [.o (scrM K)] ∧ Pd (.d (.bool true))
theorem hide_no (H : Hp) : hide (fun _ => False) H = H := by
  funext a
  simp [hide]
theorem law_want {K : PySem.W.Frag} {H : Hp} {a : Addr} {ns : List Int} {E : XK} (hl : ns.length ≤ 63) (hS : SqL K H a (ns.map V.int)) : spQ 1 (RLaw K) [.ref a] H (fun v _ => v = .bl true) E := by
  refine ⟨fun _ => False, [.o (scrM K)], fun s => s = .d (.bool true), rfl, fun _ z => z.elim, ?_, ⟨rfl, rfl⟩, fun s v H' p e q => ?_⟩
  · rw [hide_no]
    exact .cons ⟨a, ns, rfl, hS, hl⟩ .nil
  · subst p
    cases q
    rfl
end Lr

namespace Lr
open PySem L2 PySem.Spec PyProof.Rows GenW
/-! ### for in the body of a generator -/
section
variable {prog : Program} {w : World} {A : Around} {R : GenEnd} {Y : Protocol} {n : Nat} {s₀ : Shared} {fs : List Frame} {s : Shared} {env : Env}
theorem seg_forLoop {tg : Expr} {it : Value} {body : List Stmt}
    (h : wpAny (model prog w) (A.over (.forLoop tg it body [] env) fs) (pyNext it) (fun r s1 => match r with
      | none => Seg (model prog w) A R Y n s₀ (.forLoop tg it body [] env) (.pure (.again (.block [] env))) fs s1
      | some v => wpAny (model prog w) (A.over (.forLoop tg it body [] env) fs) (letOwnedTupleGo tg it v) (fun _ s2 => wpAny (model prog w) (A.over (.forLoop tg it body [] env) fs) (assign tg env v) (fun _ s3 =>
          Seg (model prog w) A R Y n s₀ (.forLoop tg it body [] env) ((execs body env).wrap (fun f => match f with
            | .next | .cont => .pure (.again (.forLoop tg it body [] env))
            | .brk => .pure (.done .next)
            | .ret v => .pure (.done (.ret v))) (fun e => (do noteFrame e env; theTreesLotGoes e : Sem Unit).wrap (fun _ => .raise e) .raise id id) id id) fs s3)
          (fun x s' => Seg (model prog w) A R Y n s₀ (.forLoop tg it body [] env) ((do noteFrame x env; theTreesLotGoes x : Sem Unit).wrap (fun _ => .raise x) .raise id id) fs s') s2)
        (fun x s' => Seg (model prog w) A R Y n s₀ (.forLoop tg it body [] env) ((do noteFrame x env; theTreesLotGoes x : Sem Unit).wrap (fun _ => .raise x) .raise id id) fs s') s1)
      (fun x s' => Seg (model prog w) A R Y n s₀ (.forLoop tg it body [] env) ((do noteFrame x env; theTreesLotGoes x : Sem Unit).wrap (fun _ => .raise x) .raise id id) fs s') s) :
    Seg (model prog w) A R Y n s₀ (.forLoop tg it body [] env) ((model prog w).den (.forLoop tg it body [] env)) fs s := by
  show Seg _ A R Y n s₀ _ ((forTurn tg it body [] env).onRaise (fun x => do noteFrame x env; theTreesLotGoes x)) fs s
  unfold forTurn
  have eH : (fun e => ((do noteFrame e env; theTreesLotGoes e : Sem Unit).bind fun _ => (.raise e : Sem Fin))) = (fun e => (do noteFrame e env; theTreesLotGoes e : Sem Unit).wrap (fun _ => .raise e) .raise id id) := funext fun e => Sem.bind_eq_wrap _ _
  rw [Sem.onRaise_eq_wrap, eH]
  refine seg_bind_wrap (wpAny_standAt ?_)
  refine seg_bind_wrap (wpAny_onRaise (wpAny_mono h (fun r s1 h1 => ?_) fun _ _ h' => wpAny_standAt h'))
  cases r with
  | none => exact h1
  | some v =>
    refine seg_bind_wrap (wpAny_mono h1 (fun _ s2 h2 => ?_) fun _ _ h' => h')
    refine seg_bind_wrap (wpAny_mono h2 (fun _ s3 h3 => ?_) fun _ _ h' => h')
    rw [Sem.bind_eq_wrap', Sem.wrap_wrap]
    refine Eq.mp (congrArg (fun t => Seg (model prog w) A R Y n s₀ (.forLoop tg it body [] env) t fs s3) (Sem.wrap_congr (execs body env) id id (fun f => ?_) (fun e => ?_))) h3
    · cases f <;> rfl
    · rfl
theorem seg_block0 {k h g l c₁ p₁ kp} (q : Seg (model prog w) A R Y n s₀ c₁ (k (.ok .next)) fs s) : Seg (model prog w) A R Y n s₀ (.block [] env) ((model prog w).den (.block [] env)) (.ret k h g l c₁ p₁ kp :: fs) s := seg_leaf (.ok .next) q
end
section
variable {X : Cx} {tg : Expr}
def tGFor (wi : TI) (g : TG) (tb : TGn) : TGn := fun D ys σ H => wi σ H fun J H1 => ∃ W : Nat → Nat → List V → L2.St → Hp → Prop, (∃ m, W 0 m ys σ H1) ∧ ∀ i m ys σ H, W i m ys σ H →
  (J.stop i H ∧ D.nx ys σ H) ∨ (J.go i H ∧ ∃ N : List V → L2.St → Hp → Prop, (∀ ys' σ' H', N ys' σ' H' → ∃ m', m' < m ∧ W (i + 1) m' ys' σ' H') ∧ ∀ x H', J.yld i H x H' → g x σ H' fun σ2 H2 => tb { D with nx := N, ct := N, bk := D.nx } ys σ2 H2)
theorem gs_for {iter : Expr} {body : List Stmt} {wi : TI} {g : TG} {tb : TGn} {pos : Pos} (hp : PassesOwn (model X.prog X.w) X.A X.env X.xe) (hc : X.calm = true) (hi : PI X tg iter wi) (hg : PG X tg g) (hb : GSs X body tb)
    (hs : ∀ x, foldedSetIterable iter X.env x = pure x := by intro _; rfl) : GS X (.For tg iter body [] pos) (tGFor wi g tb) := by
  refine ⟨fun A S ip R n ys s₀ c fs K J gd lv s σ H D gc hn k hI ht => ?_⟩
  obtain ⟨acc, cc, r, I⟩ := hI
  rw [arm_exec_For]
  refine seg_bind_wrap (wpAny_standAt ?_)
  refine seg_bind_wrap ?_
  rw [gc.over]
  refine wpAny_mono (hi.run _ s σ H _ I ht) (fun v s1 h1 => ?_) fun x s' hx => k.exc n s₀ x s' hx
  rw [hs]
  refine seg_bind_wrap (wpAny_pure ?_)
  refine seg_bind_wrap (wpAny_standAt ?_)
  refine seg_bind_wrap (wpAny_holding ?_)
  rw [gc.over]
  refine wpAny_mono h1 (fun itv s2 h2 => ?_) fun x s' hx => k.exc n s₀ x s' hx
  obtain ⟨it, fp, tn, Ji, H2, e, I2, T, st2, f2, W, ⟨m0, w0⟩, turn⟩ := h2
  subst e
  refine seg_call fun p => ?_
  have gl := fun (ip' : List (Addr × Obj)) (hip : ∀ p ∈ ip', p.1 ≠ S) (kk : Result → Sem PySem.Fin) => gc_loop (ip := ip') (k := kk) (c' := .forLoop tg (.ref it) body [] X.env) (l := lv []) (kp := []) (p := p) (⟨gc.pn, hip, gc.apart, gc.over, gc.split, gc.guard, gc.gd⟩ : GC X S ip' A c fs gd) rfl rfl
  -- what stays true of the iterator's objects, whatever the consumer's list is
  have nS : ∀ b ∈ fp, b ≠ S := fun b hb z => (f2 b hb).2.2.2.2.2 (S, lstObj acc cc) (List.mem_append_right _ List.mem_cons_self) z.symm
  have stat : ∀ {H' : Hp} {acc' : Array Value} {c' : Nat}, (∀ b ∈ fp, H' b = none) → ∀ b ∈ fp, FpOk X ((S, lstObj acc' c') :: ip) H' b := fun {H' acc' c'} hn b hb => by
    obtain ⟨_, q1, q2, q3, q4, q5⟩ := f2 b hb
    refine ⟨hn b hb, q1, q2, q3, q4, fun p hp => ?_⟩
    rcases List.mem_append.mp hp with hp | hp
    · exact q5 p (List.mem_append_left _ hp)
    · rcases List.mem_cons.mp hp with rfl | hp
      · exact fun z => nS b hb z.symm
      · exact q5 p (List.mem_append_right _ (List.mem_cons_of_mem _ hp))
  have loop : ∀ (m i n : Nat) (ys : List V) (s₀ s : Shared) (σ : L2.St) (H : Hp), n + ys.length = sizeLine → W i m ys σ H → GI X S ip ys σ H s → tn i s.heap → (∀ b ∈ fp, H b = none) →
      Seg (model X.prog X.w) A R (GY X S) n s₀ (.forLoop tg (.ref it) body [] X.env) ((model X.prog X.w).den (.forLoop tg (.ref it) body [] X.env))
        (.ret (fun r => ((match r with | .ok f => (.pure f : Sem Flow) | .error e => .raise e).onRaise (cameBack X.env)).wrap K J gd lv) none (gd false) (lv []) c p [] :: fs) s := by
    intro m
    induction m using Nat.strongRecOn with
    | ind m ih =>
      intro i n ys s₀ s σ H hn w hI st fr
      have ee : ∀ (n : Nat) (s₀ : Shared) (x : Value) (s' : Shared), X.xe x s' → Seg (model X.prog X.w) A R (GY X S) n s₀ (.forLoop tg (.ref it) body [] X.env)
          ((do noteFrame x X.env; theTreesLotGoes x : Sem Unit).wrap (fun _ => .raise x) .raise id id)
          (.ret (fun r => ((match r with | .ok f => (.pure f : Sem Flow) | .error e => .raise e).onRaise (cameBack X.env)).wrap K J gd lv) none (gd false) (lv []) c p [] :: fs) s' := fun n s₀ x s' hx => by
        refine seg_wrap ?_
        rw [(gl ip gc.ip _).over]
        refine wpAny_bind (wpAny_mono (hp x s' hx) (fun _ s'' hcb => wpAny_theTreesLotGoes ?_) fun y s'' hcb => ?_)
        · exact seg_leaf (.error x) (seg_cameBack gc k hcb)
        · exact seg_leaf (.error y) (seg_cameBack gc k hcb)
      obtain ⟨acc, cc, r, I⟩ := hI
      refine seg_forLoop ?_
      rw [(gl ip gc.ip _).over]
      rcases turn i m ys σ H w with ⟨stop, qn⟩ | ⟨go, N, hN, step⟩
      · refine wpAny_mono (T.done X rfl rfl rfl hc i _ s σ H X.xe I (stat fr) st stop) (fun r s4 ⟨hr, I4⟩ => ?_) fun x s' hx => ee n s₀ x s' hx
        subst hr
        exact seg_again rfl (seg_block0 (k.ok n ys s₀ s4 .next hn ⟨σ, H, ⟨acc, cc, r, I4⟩, qn⟩))
      · refine wpAny_mono (T.item X rfl rfl rfl hc i _ s σ H X.xe I (stat fr) st go) (fun r s4 ⟨u, hr, h4⟩ => ?_) fun x s' hx => ee n s₀ x s' hx
        subst hr
        refine wpAny_mono h4 (fun _ s5 ⟨x, H5, I5, r5, y5, st5, fr5⟩ => ?_) fun x s' hx => ee n s₀ x s' hx
        have I5' := I5.pinned (stat fr5) (T.obj _ _ st5)
        refine wpAny_mono (hg.run _ s5 σ H5 x u _ I5' r5 (step x H5 y5)) (fun _ s6 ⟨σ6, H6, I6, q6⟩ => ?_) fun x s' hx => ee n s₀ x s' hx
        have hip : ∀ p ∈ ip ++ pinsAt fp s5.heap, p.1 ≠ S := fun p hp => by
          rcases List.mem_append.mp hp with hp | hp
          · exact gc.ip p hp
          · exact nS p.1 (of_pinsAt hp).1
        have I6' : Inv X ((S, lstObj acc cc) :: (ip ++ pinsAt fp s5.heap)) σ6 H6 s6 := I6
        have gi : ∀ {ys σ H s}, GI X S (ip ++ pinsAt fp s5.heap) ys σ H s → GI X S ip ys σ H s ∧ tn (i + 1) s.heap ∧ ∀ b ∈ fp, H b = none := fun {ys σ H s} ⟨ac, c2, r2, I7⟩ => by
          have I7' : Inv X (((S, lstObj ac c2) :: ip) ++ pinsAt fp s5.heap) σ H s := I7
          refine ⟨⟨ac, c2, r2, I7'.unpinned⟩, T.keep _ _ _ st5 fun b hb o e => (I7'.pin (b, o) (List.mem_append_right _ (List.mem_append_right _ (mem_pinsAt hb e)))).1, fun b hb => ?_⟩
          obtain ⟨o, e, d⟩ := T.obj _ _ st5 b hb
          exact (I7'.pin (b, o) (List.mem_append_right _ (List.mem_append_right _ (mem_pinsAt hb e)))).2.1
        refine hb.run A S (ip ++ pinsAt fp s5.heap) R n ys s₀ _ _ _ _ id id s6 σ6 H6 { D with nx := N, ct := N, bk := D.nx } (gl _ hip _) hn ⟨fun n' ys' s₀' s7 f hn' hs => ?_, fun n' s₀' x s3 hx => ee n' s₀' x s3 hx⟩ ⟨acc, cc, r, I6'⟩ q6
        cases f with
        | next =>
          obtain ⟨σ3, H3, I3, n3⟩ := hs
          obtain ⟨m', hm, w3⟩ := hN ys' σ3 H3 n3
          obtain ⟨a1, a2, a3⟩ := gi I3
          exact seg_again rfl (ih m' hm (i + 1) n' ys' s₀' s7 σ3 H3 hn' w3 a1 a2 a3)
        | cont =>
          obtain ⟨σ3, H3, I3, n3⟩ := hs
          obtain ⟨m', hm, w3⟩ := hN ys' σ3 H3 n3
          obtain ⟨a1, a2, a3⟩ := gi I3
          exact seg_again rfl (ih m' hm (i + 1) n' ys' s₀' s7 σ3 H3 hn' w3 a1 a2 a3)
        | brk =>
          obtain ⟨σ3, H3, I3, n3⟩ := hs
          exact seg_leaf (.ok .next) (k.ok n' ys' s₀' s7 .next hn' ⟨σ3, H3, (gi I3).1, n3⟩)
        | ret v =>
          obtain ⟨x3, σ3, H3, I3, r3, n3⟩ := hs
          exact seg_leaf (.ok (.ret v)) (k.ok n' ys' s₀' s7 (.ret v) hn' ⟨x3, σ3, H3, (gi I3).1, r3, n3⟩)
  exact loop m0 0 n ys s₀ s2 σ H2 hn w0 ⟨acc, cc, r, I2⟩ st2 fun b hb => (f2 b hb).1
/-! ### if -/
def tGIf (c : TT) (t u : TGn) : TGn := fun D ys σ H => c σ H fun b H1 => if b = true then t D ys σ H1 else u D ys σ H1
theorem gs_if {test : Expr} {body orelse : List Stmt} {pos : Pos} {tc : TT} {t u : TGn} (hc : PT X test tc) (ha : GSs X body t) (hb : GSs X orelse u) : GS X (.If test body orelse pos) (tGIf tc t u) := by
  refine ⟨fun A S ip R n ys s₀ c fs K J gd lv s σ H D gc hn k hI ht => ?_⟩
  obtain ⟨acc, cc, r, I⟩ := hI
  rw [arm_exec_If]
  refine seg_bind_wrap (wpAny_standAt ?_)
  refine seg_bind_wrap ?_
  rw [gc.over]
  refine wpAny_mono (hc.run _ s σ H _ I ht) (fun b s1 h1 => ?_) fun x s' hx => k.exc n s₀ x s' hx
  obtain ⟨H2, I2, q2⟩ := h1
  cases b with
  | true =>
    rw [if_pos rfl] at q2 ⊢
    exact ha.run A S ip R n ys s₀ c fs K J gd lv s1 σ H2 D gc hn k ⟨acc, cc, r, I2⟩ q2
  | false =>
    rw [if_neg Bool.false_ne_true] at q2 ⊢
    exact hb.run A S ip R n ys s₀ c fs K J gd lv s1 σ H2 D gc hn k ⟨acc, cc, r, I2⟩ q2
end
end Lr

namespace Lr
open PySem L2 PySem.Spec PyProof.Rows
/-! ### lists of lists of one's own -/
def gown2 (o : Option (Option SV)) (P : Addr → List (List PyData) → Prop) : Prop := match o with
  | some (some (.own2 a dss)) => P a dss
  | _ => False
def isLn : Option SV → Bool
  | some (.ln _ _ _) => true
  | _ => false
/-- what was lent is forgotten -/
def dropLn (ρ : Ro) : Ro := ρ.map fun o => if isLn o = true then none else o
section
variable {hs : Hp} {hid : Addr → Prop} {own : Ix → Option Addr} {H H' : Hp} {σ : L2.St} {ρ : Ro} {v : V} {s : SV} {i j : Nat} {ds : List PyData} {dss : List (List PyData)} {p b : Addr} {vs : List V}
theorem dropLn_some {k : Nat} (h : (dropLn ρ)[k]? = some (some s)) : ρ[k]? = some (some s) ∧ isLn (some s) = false := by
  unfold dropLn at h
  rw [List.getElem?_map] at h
  cases q : ρ[k]? with
  | none => rw [q] at h; cases h
  | some o =>
    rw [q] at h
    by_cases l : isLn o = true
    · simp [l] at h
    · simp [l] at h
      subst h
      exact ⟨rfl, by simpa using l⟩
theorem Sat.liftN {hid' : Addr → Prop} {own' : Ix → Option Addr} (h : Sat hid own H i v s) (n : isLn (some s) = false) (hc : ∀ x a, (x = .s i ∨ ∃ l, x = .u i l) → own x = some a → own' x = some a ∧ H' a = H a) (hB : Ex (Bh hid own H) (Bh hid' own' H')) : Sat hid' own' H' i v s := by
  cases s with
  | own ds => exact OwnX.lift h (fun a ha => hc _ _ (.inl rfl) ha) hB
  | own2 a dss => exact Own2At.lift h hc hB
  | ln k j ds => cases n
  | d x => exact Re.mono (s := .d x) hB h
  | o m => exact Re.mono (s := .o m) hB h
  | ty n => exact h
  | ref a => exact h
theorem gown2_get {P : Addr → List (List PyData) → Prop} (r : Rep hs hid own H σ ρ) (h : gown2 ρ[i]? P) : ∃ a dss v, P a dss ∧ ρ[i]? = some (some (.own2 a dss)) ∧ σ[i]? = some (some v) ∧ Own2At hid own H i v a dss := by
  unfold gown2 at h
  split at h
  · rename_i a dss e
    obtain ⟨v, h1, h2⟩ := r.get i _ e
    exact ⟨a, dss, v, h, e, h1, h2⟩
  · exact h.elim
theorem set_get_ne {k : Nat} {x : Option SV} (h : i ≠ k) : (ρ.set i x)[k]? = ρ[k]? := by rw [List.getElem?_set, if_neg h]
/-- a list within is changed -/
theorem Rep.mutU {vs' : List V} {ds' : List PyData} (r : Rep hs hid own H σ ρ) (h0 : ρ[i]? = some (some (.own2 p dss))) (hj : j < dss.length) (hb : own (.u i j) = some b) (t : DdAll (Bh hid own H) vs' ds') :
    Rep hs hid own (upd H b (.lst vs')) σ (dropLn (ρ.set i (some (.own2 p (dss.set j ds'))))) := by
  have hO : Oo hid own b := .inr ⟨_, hb⟩
  have hB : Ex (Bh hid own H) (Bh hid own (upd H b (.lst vs'))) := hide_upd hO
  refine ⟨Evl.Ex.mut r.ex (r.new _ b hb).1, fun c h => ?_, r.new, r.inj, by unfold dropLn; rw [List.length_map, List.length_set]; exact r.len, fun k s h => ?_⟩
  · by_cases e : c = b
    · rw [e, upd_same]; exact fun z => nomatch z
    · rw [upd_ne e]; exact r.occ c h
  · obtain ⟨h, nl⟩ := dropLn_some h
    by_cases hi : i = k
    · subst hi
      have hl : i < ρ.length := (List.getElem?_eq_some_iff.mp h0).1
      rw [List.getElem?_set, if_pos rfl, if_pos hl] at h
      cases h
      obtain ⟨v, h1, ws, g1, g2, g3, g4, g5⟩ := r.get i _ h0
      have ne : p ≠ b := fun z => by
        have := r.inj (.s i) (.u i j) p g1 (by rw [z]; exact hb)
        cases this
      refine ⟨v, h1, ws, g1, g2, by rw [upd_ne ne]; exact g3, by rw [List.length_set]; exact g4, fun l es hl => ?_⟩
      rw [List.getElem?_set] at hl
      by_cases e : j = l
      · subst e
        rw [if_pos rfl, if_pos hj] at hl
        cases hl
        obtain ⟨u, q1, a', us, q2, q3, q4, q5⟩ := g5 j _ (List.getElem?_eq_getElem hj)
        rw [hb] at q2
        cases q2
        exact ⟨u, q1, b, vs', hb, q3, upd_same, t.mono hB⟩
      · rw [if_neg e] at hl
        obtain ⟨u, q1, q2⟩ := g5 l es hl
        refine ⟨u, q1, q2.lift (fun a ha => ⟨ha, upd_ne fun z => e ?_⟩) hB⟩
        have := r.inj (.u i l) (.u i j) a ha (by rw [z]; exact hb)
        cases this
        rfl
    · rw [set_get_ne hi] at h
      obtain ⟨v, h1, h2⟩ := r.get k s h
      refine ⟨v, h1, h2.liftN nl (fun x a hx ha => ⟨ha, upd_ne fun z => ?_⟩) hB⟩
      have e := r.inj x (.u i j) a ha (by rw [z]; exact hb)
      rcases hx with hx | ⟨l, hx⟩
      · rw [hx] at e; cases e
      · rw [hx] at e
        cases e
        exact hi rfl
end
/-! reading -/
def rIx2 (K : PySem.W.Frag) : R2 := rIxX K
theorem kx_2 {X : Cx} {K : PySem.W.Frag} (hK : X.K = K) : IxR X (rIx2 K) := kx_X hK
def wIx2 (i : Nat) (e : WE) : WE := fun ρ P => gown2 ρ[i]? fun _ dss => e ρ fun y => asI y fun n => ∃ ds, L2.atI dss n = some ds ∧ P (.d (.list ds))
theorem own2_at {hid : Addr → Prop} {own : Ix → Option Addr} {H : Hp} {i : Nat} {v : V} {a : Addr} {dss : List (List PyData)} {vs : List V} {n : Int} {ds : List PyData} (h4 : vs.length = dss.length) (h5 : ∀ j ds, dss[j]? = some ds → ∃ u, vs[j]? = some u ∧ OwnX hid own H (.u i j) u ds) (h : L2.atI dss n = some ds) : ∃ j u, ixN dss.length n = some j ∧ dss[j]? = some ds ∧ L2.atI vs n = some u ∧ OwnX hid own H (.u i j) u ds := by
  unfold L2.atI at h ⊢
  rw [h4]
  cases q : ixN dss.length n with
  | none => rw [q] at h; cases h
  | some j =>
    rw [q] at h
    have h : dss[j]? = some ds := h
    obtain ⟨u, h6, h7⟩ := h5 j ds h
    exact ⟨j, u, rfl, h, h6, h7⟩
instance lb_ix2 {K : PySem.W.Frag} {i : Nat} {te : TE} {e : WE} [he : LE te e] : LB (tOp (rIx2 K) (tVar i) te) (wIx2 i e) := ⟨fun hs hid own H σ ρ P Q r hw k => by
  obtain ⟨a, dss, v, p, e0, h1, h2⟩ := gown2_get r hw
  refine ⟨v, h1, he.go hs hid own H σ ρ _ _ r p fun s y H1 p1 e1 q1 => ?_⟩
  unfold asI at p1
  split at p1
  · cases q1
    obtain ⟨ds, hd, hp⟩ := p1
    obtain ⟨vs, g1, rfl, g3, g4, g5⟩ := h2.mono e1
    obtain ⟨j, u, _, _, hu, hx⟩ := own2_at (a := a) (v := .ref a) g4 g5 hd
    exact .inl ⟨a, vs, _, u, rfl, rfl, SqL.of g3, hu, k _ u H1 hp e1 (.inr ⟨ds, _, rfl, hx⟩)⟩
  · exact p1.elim⟩
/-! queues[k].append(x) -/
def wApp2 (i : Nat) (a b : WE) : WS := fun E ρ => gown2 ρ[i]? fun p dss => a ρ fun y => asI y fun n => ∃ j ds, ixN dss.length n = some j ∧ dss[j]? = some ds ∧ ds.length < 100000 ∧ b ρ fun z => asD z fun d => E.nx (dropLn (ρ.set i (some (.own2 p (dss.set j (ds ++ [d]))))))
instance (priority := 2000) ls_app2 {K K2 : PySem.W.Frag} {i : Nat} {t1 t2 : TE} {a b : WE} [ha : LE t1 a] [hb : LE t2 b] : LS (tDrop (tBM K2 "list" rAppend (tOp (rIx2 K) (tVar i) t1) (tCons t2 tNil))) (wApp2 i a b) := ⟨fun hs hid D E own H σ ρ k r hw => by
  obtain ⟨p, dss, v, hw, e0, h1, h2⟩ := gown2_get r hw
  refine ⟨v, h1, ha.go hs hid own H σ ρ _ _ r hw fun s y H1 p1 e1 q1 => ?_⟩
  unfold asI at p1
  split at p1
  · cases q1
    obtain ⟨vs, g1, rfl, g3, g4, g5⟩ := h2.mono e1
    have r1 := r.mono e1
    rename_i n
    obtain ⟨j, ds, hj, hd, hlen, p1⟩ := p1
    obtain ⟨u, h6, c, ws, h7, rfl, h8, h9⟩ := g5 j ds hd
    have hu : L2.atI vs n = some (.ref c) := by
      unfold L2.atI
      rw [g4, hj]
      exact h6
    refine .inl ⟨p, vs, _, _, rfl, rfl, SqL.of g3, hu, .inl ⟨rfl, _, SqL.of h8⟩, hb.go hs hid own H1 σ ρ _ _ r1 p1 fun s z H2 p2 e2 q2 => ?_⟩
    unfold asD at p2
    split at p2
    · refine ⟨c, ws, z, rfl, rfl, e2 _ _ h8, by rw [h9.len]; exact Evl.sz_lt hlen, ?_⟩
      exact k.nx own _ _ _ p2 ((r1.mono e2).mutU e0 (List.getElem?_eq_some_iff.mp hd).1 h7 ((h9.mono (hide_mono e2)).app (.cons q2 .nil)))
    · exact p2.elim
  · exact p1.elim⟩
/-! queues[k] = a new list -/
def rSetL2 : V → V → V → Hp → (Hp → Prop) → Prop := rSetL
theorem set_list2 {X : Cx} : PSet X rSetL2 := set_list
/-- a list cut out of another is new -/
def wfSl (a : WE) (l u : WO) : Ro → (List PyData → Prop) → Prop := fun ρ P => a ρ fun x => asL x fun ds => l ρ fun i => u ρ fun j => P (cutD ds i j)
instance lf_sl {K : PySem.W.Frag} {te : TE} {tl th : TO} {a : WE} {l u : WO} [ha : LB te a] [hl : LO tl l] [hu : LO th u] : LF (tSl (rSlX K) te tl th) (wfSl a l u) := ⟨fun hs hid own H σ ρ P Q r hw k => by
  refine ha.go hs hid own H σ ρ _ _ r hw fun s v H1 p e1 q => ?_
  unfold asL at p
  split at p
  · refine hl.go hs hid own H1 σ ρ _ _ (r.mono e1) p fun i H2 p2 e2 => ?_
    refine hu.go hs hid own H2 σ ρ _ _ ((r.mono e1).mono e2) p2 fun j H3 p3 e3 => ?_
    obtain ⟨a, vs, rfl, h1, t1⟩ := ((q.mono e2).mono e3).list
    have ee := (e1.trans e2).trans e3
    exact .inr (.inl ⟨a, vs, rfl, SqL.of h1, fun b hb => k _ _ _ _ p3 (ee.trans (Evl.Ex.new hb)) (Evl.fresh_back ee hb) upd_same ((t1.cut i j).mono (hide_new2 hb))⟩)
  · exact p.elim⟩
section
variable {hs : Hp} {hid : Addr → Prop} {own : Ix → Option Addr} {H H' : Hp} {σ : L2.St} {ρ : Ro} {v : V} {s : SV} {i j : Nat} {ds : List PyData} {dss : List (List PyData)} {p b : Addr} {vs : List V}
/-- a new list takes the place of one within -/
theorem Rep.putU {ws us : List V} {ds' : List PyData} (r : Rep hs hid own H σ ρ) (h0 : ρ[i]? = some (some (.own2 p dss))) (hp : H p = some (.lst ws)) (hj : j < dss.length) (e : Ex H H') (hn : H b = none) (hb : H' b = some (.lst us)) (t : DdAll (hide (fun c => Oo hid own c ∨ c = b) H') us ds') :
    Rep hs hid (setO own (.u i j) b) (upd H' p (.lst (ws.set j (.ref b)))) σ (dropLn (ρ.set i (some (.own2 p (dss.set j ds'))))) := by
  have nO : ¬ Oo hid own b := r.notO hn
  have sub : ∀ c, Oo hid (setO own (.u i j) b) c → Oo hid own c ∨ c = b := oo_set
  obtain ⟨v0, hv0, ws0, g1, g2, g3, g4, g5⟩ := r.get i _ h0
  rw [hp] at g3
  cases g3
  have pb : p ≠ b := fun z => by rw [z, hn] at hp; cases hp
  have o1 : ∀ {x : Ix}, x ≠ .u i j → setO own (.u i j) b x = own x := fun {x} h => by simp only [setO, h, if_false]
  have oj : setO own (.u i j) b (.u i j) = some b := by simp [setO]
  have hB : Ex (Bh hid own H) (Bh hid (setO own (.u i j) b) (upd H' p (.lst (ws.set j (.ref b))))) := fun c o h => by
    obtain ⟨h1, h2⟩ := hide_some h
    have cp : c ≠ p := fun z => h1 (.inr ⟨.s i, by rw [z]; exact g1⟩)
    refine (hide_of (fun z => ?_)).trans ((upd_ne cp).trans (e _ _ h2))
    rcases sub c z with z | rfl
    · exact h1 z
    · rw [hn] at h2; cases h2
  have hB2 : Ex (hide (fun c => Oo hid own c ∨ c = b) H') (Bh hid (setO own (.u i j) b) (upd H' p (.lst (ws.set j (.ref b))))) := fun c o h => by
    obtain ⟨h1, h2⟩ := hide_some h
    have cp : c ≠ p := fun z => h1 (.inl (.inr ⟨.s i, by rw [z]; exact g1⟩))
    exact (hide_of (fun z => h1 (sub c z))).trans ((upd_ne cp).trans h2)
  have keep : ∀ x a, x ≠ .u i j → x ≠ .s i → own x = some a → setO own (.u i j) b x = some a ∧ upd H' p (.lst (ws.set j (.ref b))) a = H a := fun x a n1 n2 ha => by
    refine ⟨by rw [o1 n1]; exact ha, ?_⟩
    have ap : a ≠ p := fun z => n2 (r.inj x (.s i) a ha (by rw [z]; exact g1))
    rw [upd_ne ap]
    exact (r.keeps e x a ha).2
  refine ⟨Evl.Ex.mut (r.ex.trans e) (r.new (.s i) p g1).1, fun c h => ?_, fun x c h => ?_, fun x y c h1 h2 => ?_, by unfold dropLn; rw [List.length_map, List.length_set]; exact r.len, fun k s h => ?_⟩
  · by_cases cp : c = p
    · rw [cp, upd_same]; exact fun z => nomatch z
    · rw [upd_ne cp]
      rcases sub c h with z | rfl
      · exact ne_none_mono e (r.occ c z)
      · rw [hb]; exact fun z => nomatch z
  · by_cases hx : x = .u i j
    · rw [hx, oj] at h
      cases h
      exact ⟨Evl.fresh_back r.ex hn, fun z => nO (.inl z)⟩
    · rw [o1 hx] at h
      exact r.new x c h
  · by_cases hx : x = .u i j
    · by_cases hy : y = .u i j
      · rw [hx, hy]
      · rw [hx, oj] at h1
        cases h1
        rw [o1 hy] at h2
        exact absurd (Or.inr ⟨y, h2⟩) nO
    · by_cases hy : y = .u i j
      · rw [hy, oj] at h2
        cases h2
        rw [o1 hx] at h1
        exact absurd (Or.inr ⟨x, h1⟩) nO
      · rw [o1 hx] at h1
        rw [o1 hy] at h2
        exact r.inj x y c h1 h2
  · obtain ⟨h, nl⟩ := dropLn_some h
    by_cases hi : i = k
    · subst hi
      have hl : i < ρ.length := (List.getElem?_eq_some_iff.mp h0).1
      rw [List.getElem?_set, if_pos rfl, if_pos hl] at h
      cases h
      refine ⟨v0, hv0, ws.set j (.ref b), by rw [o1 (x := .s i) (fun z => by cases z)]; exact g1, g2, upd_same, by rw [List.length_set, List.length_set]; exact g4, fun l es hl => ?_⟩
      rw [List.getElem?_set] at hl
      by_cases e' : j = l
      · subst e'
        rw [if_pos rfl, if_pos hj] at hl
        cases hl
        refine ⟨.ref b, by rw [List.getElem?_set, if_pos rfl, if_pos (by rw [g4]; exact hj)], b, us, oj, rfl, ?_, t.mono hB2⟩
        rw [upd_ne (Ne.symm pb)]; exact hb
      · rw [if_neg e'] at hl
        obtain ⟨u, q1, q2⟩ := g5 l es hl
        refine ⟨u, by rw [List.getElem?_set, if_neg e']; exact q1, q2.lift (fun a ha => keep _ a (fun z => ?_) (fun z => nomatch z) ha) hB⟩
        cases z
        exact e' rfl
    · rw [set_get_ne hi] at h
      obtain ⟨v, h1, h2⟩ := r.get k s h
      refine ⟨v, h1, h2.liftN nl (fun x a hx ha => keep x a (fun z => ?_) (fun z => ?_) ha) hB⟩
      · rcases hx with hx | ⟨l, hx⟩
        · rw [hx] at z; cases z
        · rw [hx] at z; cases z; exact hi rfl
      · rcases hx with hx | ⟨l, hx⟩
        · rw [hx] at z; cases z; exact hi rfl
        · rw [hx] at z; cases z
end
def wPut2 (i : Nat) (a : Ro → (List PyData → Prop) → Prop) (b : WE) : WS := fun E ρ => a ρ fun ds => gown2 ρ[i]? fun p dss => b ρ fun n => asI n fun m => ∃ j, ixN dss.length m = some j ∧ E.nx (dropLn (ρ.set i (some (.own2 p (dss.set j ds)))))
instance (priority := 2000) ls_put2 {i : Nat} {ta tb : TE} {a : Ro → (List PyData → Prop) → Prop} {b : WE} [ha : LF ta a] [hb : LE tb b] : LS (tAsg ta (gSub (tVar i) tb rSetL2)) (wPut2 i a b) := ⟨fun hs hid D E own H σ ρ k r hw => by
  refine ha.go hs hid own H σ ρ _ _ r hw fun ds c us H1 p1 e1 n1 h1 t1 => ?_
  obtain ⟨p, dss, v, p1, e0, g1, g2⟩ := gown2_get r p1
  -- the new list is hidden while the index is read
  have rp : Rep hs (fun b => hid b ∨ b = c) own H1 σ ρ := by
    have np : ¬ Oo hid own c := r.notO n1
    have hB : Ex (Bh hid own H) (Bh (fun b => hid b ∨ b = c) own H1) := fun b o h => by
      obtain ⟨a1, a2⟩ := hide_some h
      refine (hide_of (fun z => ?_)).trans (e1 _ _ a2)
      rcases z with (z | rfl) | z
      · exact a1 (.inl z)
      · rw [n1] at a2; cases a2
      · exact a1 (.inr z)
    have r2 := r.mono e1
    refine ⟨r2.ex, fun b h => ?_, fun q b h => ⟨(r2.new q b h).1, ?_⟩, r2.inj, r2.len, fun q s h => ?_⟩
    · rcases h with (h | rfl) | h
      · exact r2.occ b (.inl h)
      · rw [h1]; exact fun z => nomatch z
      · exact r2.occ b (.inr h)
    · rintro (z | z)
      · exact (r2.new q b h).2 z
      · exact np (.inr ⟨q, by rw [h, z]⟩)
    · obtain ⟨v, g1, g2⟩ := r.get q s h
      exact ⟨v, g1, g2.lift (fun x a _ ha => r.keeps e1 x a ha) hB⟩
  refine ⟨v, g1, hb.go hs _ own H1 σ ρ _ _ rp p1 fun s y H2 p2 e2 q2 => ?_⟩
  unfold asI at p2
  split at p2
  · cases q2
    obtain ⟨j, hj, p2⟩ := p2
    have e12 := e1.trans e2
    obtain ⟨ws, q1, rfl, q3, q4, q5⟩ := g2
    refine ⟨p, ws, _, j, rfl, rfl, e12 _ _ q3, by rw [q4]; exact hj, ?_⟩
    have hjl : j < dss.length := (ixN_seq hj).2.1
    refine k.nx _ _ _ _ p2 (r.putU e0 q3 hjl e12 n1 (e2 _ _ h1) (t1.mono (hide_mono e2)))
  · exact p2.elim⟩
end Lr

namespace Lr
open PySem L2 PySem.Spec PyProof.Rows
section
variable {hs : Hp} {hid : Addr → Prop} {own : Ix → Option Addr} {H H' : Hp} {σ : L2.St} {ρ : Ro} {v : V} {s : SV} {i j : Nat} {ds : List PyData} {dss : List (List PyData)} {p b : Addr} {vs : List V}
theorem Rep.putS (r : Rep hs hid own H σ ρ) (i : Nat) (q : Sat hid own H i v s) : Rep hs hid own H (σ.set i (some v)) (ρ.set i (some s)) := by
  refine ⟨r.ex, r.occ, r.new, r.inj, by rw [List.length_set, List.length_set]; exact r.len, fun j s' h => ?_⟩
  rw [List.getElem?_set] at h ⊢
  by_cases hi : i = j
  · subst hi
    rw [if_pos rfl] at h ⊢
    by_cases hl : i < ρ.length
    · rw [if_pos hl] at h
      cases h
      rw [if_pos (by rw [r.len]; exact hl)]
      exact ⟨v, rfl, q⟩
    · rw [if_neg hl] at h
      cases h
  · rw [if_neg hi] at h ⊢
    exact r.get j s' h
theorem Rep.drop (r : Rep hs hid own H σ ρ) : Rep hs hid own H σ (dropLn ρ) :=
  ⟨r.ex, r.occ, r.new, r.inj, by unfold dropLn; rw [List.length_map]; exact r.len, fun k s h => r.get k s (dropLn_some h).1⟩
end
/-! ### for x in a list of lists of one's own -/
def iOwn2 (K : PySem.W.Frag) (tl : TE) : TI := iAny K tl
theorem ki_own2 {X : Cx} {K : PySem.W.Frag} {tg l : Expr} {tl : TE} (hK : X.K = K) (hl : PE X l tl) : PI X tg l (iOwn2 K tl) := ki_any hK hl
def wFor2 (i k : Nat) (b : WS) (p : Addr) (n : Nat) : Nat → Nat → WS
  | 0, _, E, ρ => gown2 ρ[i]? fun q dss => q = p ∧ dss.length = n ∧ E.nx ρ
  | f + 1, j, E, ρ => gown2 ρ[i]? fun q dss => q = p ∧ dss.length = n ∧ ∃ ds, dss[j]? = some ds ∧ b { E with nx := wFor2 i k b p n f (j + 1) E, ct := wFor2 i k b p n f (j + 1) E, bk := E.nx } (ρ.set k (some (.ln i j ds)))
def wForO (i k : Nat) (b : WS) : WS := fun E ρ => gown2 ρ[i]? fun p dss => wFor2 i k b p dss.length dss.length 0 E ρ
instance ls_for2 {K : PySem.W.Frag} {i k : Nat} {tb : TS} {b : WS} [hb : LS tb b] : LS (tFor (iOwn2 K (tVar i)) (gName k) tb) (wForO i k b) := ⟨fun hs hid D E own H σ ρ kk r hw => by
  obtain ⟨p, dss, v, hw, e0, h1, ws, g1, rfl, g3, g4, g5⟩ := gown2_get r hw
  refine ⟨_, h1, .inl ⟨p, rfl, ⟨_, SqL.of g3⟩, ?_⟩⟩
  have q : ∀ n, n = dss.length → ∃ W : Nat → Nat → L2.St → Hp → Prop, (∃ m, W 0 m σ H) ∧ ∀ i m σ H, W i m σ H →
      ((Itl K p).stop i H ∧ D.nx σ H) ∨ ((Itl K p).go i H ∧ ∃ N : L2.St → Hp → Prop, (∀ σ' H', N σ' H' → ∃ m', m' < m ∧ W (i + 1) m' σ' H') ∧ ∀ x H', (Itl K p).yld i H x H' → gName k x σ H' fun σ2 H2 => tb { D with nx := N, ct := N, bk := D.nx } σ2 H2) := by
    intro n hn
    subst hn
    refine ⟨fun j m σ' H' => ∃ own' ρ', m + j = dss.length ∧ Rep hs hid own' H' σ' ρ' ∧ wFor2 i k b p dss.length m j E ρ', ⟨dss.length, own, ρ, rfl, r, hw⟩, ?_⟩
    rintro j m σ' H' ⟨own', ρ', hm, r', hp⟩
    cases m with
    | zero =>
      unfold wFor2 at hp
      obtain ⟨p', dss', v', ⟨rfl, hl, hp⟩, e0', h1', ws', q1, rfl, q3, q4, q5⟩ := gown2_get r' hp
      exact .inl ⟨⟨ws', SqL.of q3, by omega⟩, kk.nx own' H' σ' ρ' hp r'⟩
    | succ m =>
      unfold wFor2 at hp
      obtain ⟨p', dss', v', ⟨rfl, hl, ds, hd, hp⟩, e0', h1', ws', q1, rfl, q3, q4, q5⟩ := gown2_get r' hp
      obtain ⟨u, h6, h7⟩ := q5 j ds hd
      refine .inr ⟨⟨ws', u, SqL.of q3, h6⟩, fun σ2 H2 => ∃ own2 ρ2, Rep hs hid own2 H2 σ2 ρ2 ∧ wFor2 i k b p' dss.length m (j + 1) E ρ2, ?_, ?_⟩
      · rintro σ2 H2 ⟨own2, ρ2, a1, a2⟩
        exact ⟨m, Nat.lt_succ_self m, own2, ρ2, by omega, a1, a2⟩
      · rintro x H'' ⟨rfl, hy⟩
        have := hy ws' (SqL.of q3)
        rw [h6] at this
        cases this
        exact hb.go hs hid _ { E with nx := wFor2 i k b p' dss.length m (j + 1) E, ct := wFor2 i k b p' dss.length m (j + 1) E, bk := E.nx } own' H'' _ _ ⟨fun own H σ ρ p r => ⟨own, ρ, r, p⟩, fun own H σ ρ p r => kk.nx own H σ ρ p r, fun own H σ ρ p r => ⟨own, ρ, r, p⟩, kk.rt⟩ (r'.putS k (s := .ln i j ds) h7) hp
  exact q _ rfl⟩
theorem for2_inv {i k : Nat} {b : WS} {p : Addr} {n : Nat} {E : PEnds} {ρ : Ro} (I : Nat → Ro → Prop) (h0 : I 0 ρ) (hg : ∀ j ρ', j ≤ n → I j ρ' → ∃ dss, ρ'[i]? = some (some (.own2 p dss)) ∧ dss.length = n)
    (hs : ∀ j ds dss ρ', j < n → I j ρ' → ρ'[i]? = some (some (.own2 p dss)) → dss[j]? = some ds → ∀ N : Ro → Prop, (∀ ρ2, I (j + 1) ρ2 → N ρ2) → b { E with nx := N, ct := N, bk := E.nx } (ρ'.set k (some (.ln i j ds)))) (hd : ∀ ρ', I n ρ' → E.nx ρ') : wFor2 i k b p n n 0 E ρ := by
  have key : ∀ (f j : Nat) (ρ : Ro), f + j = n → I j ρ → wFor2 i k b p n f j E ρ := by
    intro f
    induction f with
    | zero =>
      intro j ρ hj hi
      obtain ⟨dss, e, hl⟩ := hg j ρ (by omega) hi
      unfold wFor2
      rw [e]
      have : j = n := by omega
      subst this
      exact ⟨rfl, hl, hd ρ hi⟩
    | succ f ih =>
      intro j ρ hj hi
      obtain ⟨dss, e, hl⟩ := hg j ρ (by omega) hi
      unfold wFor2
      rw [e]
      have lt : j < dss.length := by omega
      exact ⟨rfl, hl, dss[j], List.getElem?_eq_getElem lt, hs j _ dss ρ (by omega) hi e (List.getElem?_eq_getElem lt) _ fun ρ2 h2 => ih (j + 1) ρ2 (by omega) h2⟩
  exact key n 0 ρ rfl h0
/-! ### several targets at once -/
def freeAt (ρ : Ro) (i : Nat) : Bool := match ρ[i]? with
  | some (some (.own _)) => false
  | some (some (.own2 _ _)) => false
  | _ => true
inductive SatL (hid : Addr → Prop) (own : Ix → Option Addr) (H : Hp) : List Nat → List V → List SV → Prop
  | nil : SatL hid own H [] [] []
  | cons {i : Nat} {v : V} {s : SV} {is : List Nat} {vs : List V} {ss : List SV} : Sat hid own H i v s → SatL hid own H is vs ss → SatL hid own H (i :: is) (v :: vs) (s :: ss)
/-- the places of one's own that belong to a slot -/
def Ix.at (x : Ix) (is : List Nat) : Prop := match x with
  | .s i => i ∈ is
  | .u i _ => i ∈ is
class LP (t : TA) (is : List Nat) (w : outParam (Ro → (List SV → Prop) → Prop)) : Prop where
  go : ∀ hs hid own H σ ρ (P : List SV → Prop) (Q : List V → Hp → Prop), Rep hs hid own H σ ρ → dropLn ρ = ρ → w ρ P → (∀ ss vs own' H', P ss → Rep hs hid own' H' σ ρ → (∀ x, ¬ x.at is → own' x = own x) → Ex H H' → Ex (Bh hid own H) (Bh hid own' H') → SatL hid own' H' is vs ss → Q vs H') → t σ H Q
instance lp_nil : LP tNil [] wNil := ⟨fun hs hid own H σ ρ P Q r hd hw k => k [] [] own H hw r (fun _ _ => rfl) (Evl.Ex.refl _) (Evl.Ex.refl _) .nil⟩
def wpE (i : Nat) (is : List Nat) (a : WE) (b : Ro → (List SV → Prop) → Prop) : Ro → (List SV → Prop) → Prop := fun ρ P => a ρ fun x => b ρ fun xs => P (x :: xs)
instance (priority := 100) lp_consE {t : TE} {u : TA} {i : Nat} {is : List Nat} {a : WE} {b : Ro → (List SV → Prop) → Prop} [ha : LE t a] [hb : LP u is b] : LP (tCons t u) (i :: is) (wpE i is a b) := ⟨fun hs hid own H σ ρ P Q r hd hw k => by
  refine ha.go hs hid own H σ ρ _ _ r hw fun s v H1 p e1 q => ?_
  refine hb.go hs hid own H1 σ ρ _ _ (r.mono e1) hd p fun ss vs own' H' p2 r2 ag e2 hB sl => ?_
  refine k (s :: ss) (v :: vs) own' H' p2 r2 (fun x hx => ag x fun z => hx ?_) (e1.trans e2) ((hide_mono e1).trans hB) (.cons (sat_of (q.mono hB)) sl)
  cases x with
  | s j => exact List.mem_cons_of_mem _ z
  | u j l => exact List.mem_cons_of_mem _ z⟩
def tOwnE (t : TE) : TE := t
theorem pe_ownE {X : Cx} {e : Expr} {t : TE} (h : PE X e t) : PE X e (tOwnE t) := h
def tOwn2E (t : TE) : TE := t
theorem pe_own2E {X : Cx} {e : Expr} {t : TE} (h : PE X e t) : PE X e (tOwn2E t) := h
theorem Sat.slot {hid : Addr → Prop} {own : Ix → Option Addr} {H : Hp} {ρ : Ro} {k : Nat} {s : SV} (hd : dropLn ρ = ρ) (h : ρ[k]? = some (some s)) : isLn (some s) = false := by
  rw [← hd] at h
  exact (dropLn_some h).2
/-- a slot's place of one's own is taken by new lists; the slot itself is not told yet -/
theorem Rep.ghost {hs : Hp} {hid : Addr → Prop} {own own' : Ix → Option Addr} {H H' : Hp} {σ : L2.St} {ρ : Ro} {i : Nat} (r : Rep hs hid own H σ ρ) (hd : dropLn ρ = ρ) (hf : freeAt ρ i = true) (e : Ex H H') (ag : ∀ x, ¬ x.at [i] → own' x = own x)
    (fr : ∀ x b, x.at [i] → own' x = some b → H b = none ∧ H' b ≠ none) (nj : ∀ x y b, x.at [i] → y.at [i] → own' x = some b → own' y = some b → x = y) : Rep hs hid own' H' σ ρ ∧ Ex (Bh hid own H) (Bh hid own' H') := by
  have sub : ∀ c, Oo hid own' c → Oo hid own c ∨ (H c = none ∧ H' c ≠ none) := fun c h => by
    rcases h with h | ⟨x, h⟩
    · exact .inl (.inl h)
    · by_cases hx : x.at [i]
      · exact .inr (fr x c hx h)
      · rw [ag x hx] at h
        exact .inl (.inr ⟨x, h⟩)
  have hB : Ex (Bh hid own H) (Bh hid own' H') := fun c o h => by
    obtain ⟨h1, h2⟩ := hide_some h
    refine (hide_of (fun z => ?_)).trans (e _ _ h2)
    rcases sub c z with z | z
    · exact h1 z
    · rw [z.1] at h2; cases h2
  refine ⟨⟨r.ex.trans e, fun c h => ?_, fun x c h => ?_, fun x y c h1 h2 => ?_, r.len, fun k s h => ?_⟩, hB⟩
  · rcases sub c h with z | z
    · exact ne_none_mono e (r.occ c z)
    · exact z.2
  · by_cases hx : x.at [i]
    · exact ⟨Evl.fresh_back r.ex (fr x c hx h).1, fun z => r.notO (fr x c hx h).1 (.inl z)⟩
    · rw [ag x hx] at h
      exact r.new x c h
  · by_cases hx : x.at [i]
    · by_cases hy : y.at [i]
      · exact nj x y c hx hy h1 h2
      · rw [ag y hy] at h2
        exact absurd (Or.inr ⟨y, h2⟩) (r.notO (fr x c hx h1).1)
    · by_cases hy : y.at [i]
      · rw [ag x hx] at h1
        exact absurd (Or.inr ⟨x, h1⟩) (r.notO (fr y c hy h2).1)
      · rw [ag x hx] at h1
        rw [ag y hy] at h2
        exact r.inj x y c h1 h2
  · obtain ⟨v, h1, h2⟩ := r.get k s h
    refine ⟨v, h1, ?_⟩
    have nl := Sat.slot (hid := hid) (own := own) (H := H) hd h
    by_cases hk : k = i
    · subst hk
      unfold freeAt at hf
      rw [h] at hf
      cases s with
      | own ds => cases hf
      | own2 a dss => cases hf
      | ln a b c => cases nl
      | d x => exact Re.mono (s := .d x) hB h2
      | o m => exact Re.mono (s := .o m) hB h2
      | ty n => exact h2
      | ref a => exact h2
    · refine h2.liftN nl (fun x a hx ha => ?_) hB
      have nx : ¬ x.at [i] := fun z => by
        rcases hx with hx | ⟨l, hx⟩
        · rw [hx] at z; simp [Ix.at] at z; exact hk z
        · rw [hx] at z; simp [Ix.at] at z; exact hk z
      exact ⟨by rw [ag x nx]; exact ha, (r.keeps e x a ha).2⟩
theorem SatL.cons_of {hid : Addr → Prop} {own : Ix → Option Addr} {H : Hp} {i : Nat} {is : List Nat} {v : V} {s : SV} {vs : List V} {ss : List SV} (h : Sat hid own H i v s) (t : SatL hid own H is vs ss) : SatL hid own H (i :: is) (v :: vs) (s :: ss) := .cons h t
def wpF (i : Nat) (is : List Nat) (a : Ro → (List PyData → Prop) → Prop) (b : Ro → (List SV → Prop) → Prop) : Ro → (List SV → Prop) → Prop := fun ρ P => freeAt ρ i = true ∧ i ∉ is ∧ a ρ fun x => b ρ fun xs => P (.own x :: xs)
instance lp_consF {t : TE} {u : TA} {i : Nat} {is : List Nat} {a : Ro → (List PyData → Prop) → Prop} {b : Ro → (List SV → Prop) → Prop} [ha : LF t a] [hb : LP u is b] : LP (tCons (tOwnE t) u) (i :: is) (wpF i is a b) := ⟨fun hs hid own H σ ρ P Q r hd hw k => by
  obtain ⟨hf, ni, hw⟩ := hw
  refine ha.go hs hid own H σ ρ _ _ r hw fun ds c us H1 p1 e1 n1 h1 t1 => ?_
  let own1 : Ix → Option Addr := fun x => match x with
    | .s k => if k = i then some c else own (.s k)
    | .u k l => if k = i then none else own (.u k l)
  have ag : ∀ x, ¬ x.at [i] → own1 x = own x := fun x hx => by
    cases x with
    | s k => simp [Ix.at] at hx; simp [own1, hx]
    | u k l => simp [Ix.at] at hx; simp [own1, hx]
  have at1 : ∀ x b, x.at [i] → own1 x = some b → x = .s i ∧ b = c := fun x b hx h => by
    cases x with
    | s k => simp [Ix.at] at hx; subst hx; simp [own1] at h; exact ⟨rfl, h.symm⟩
    | u k l => simp [Ix.at] at hx; subst hx; simp [own1] at h
  obtain ⟨r1, hB1⟩ := r.ghost (own' := own1) hd hf e1 ag (fun x b hx h => by obtain ⟨_, rfl⟩ := at1 x b hx h; exact ⟨n1, by rw [h1]; exact fun z => nomatch z⟩) (fun x y b hx hy h1 h2 => (at1 x b hx h1).1.trans (at1 y b hy h2).1.symm)
  have o1 : own1 (.s i) = some c := by simp [own1]
  have S1 : OwnX hid own1 H1 (.s i) (.ref c) ds := ⟨c, us, o1, rfl, h1, t1.mono (hide_le fun b hb => by
    rcases hb with z | ⟨x, z⟩
    · exact .inl (.inl z)
    · by_cases hx : x.at [i]
      · exact .inr (at1 x b hx z).2
      · rw [ag x hx] at z; exact .inl (.inr ⟨x, z⟩))⟩
  refine hb.go hs hid own1 H1 σ ρ _ _ r1 hd p1 fun ss vs own' H' p2 r2 ag2 e2 hB2 sl => ?_
  refine k (.own ds :: ss) (.ref c :: vs) own' H' p2 r2 (fun x hx => ?_) (e1.trans e2) (hB1.trans hB2) (.cons ?_ sl)
  · cases x with
    | s j =>
      have h1 : ¬ j = i ∧ ¬ j ∈ is := by simpa [Ix.at] using hx
      rw [ag2 (.s j) h1.2]
      simp [own1, h1.1]
    | u j l =>
      have h1 : ¬ j = i ∧ ¬ j ∈ is := by simpa [Ix.at] using hx
      rw [ag2 (.u j l) h1.2]
      simp [own1, h1.1]
  · exact OwnX.lift S1 (fun a ha => ⟨by rw [ag2 (.s i) ni]; exact ha, (r1.keeps e2 (.s i) a ha).2⟩) hB2⟩
/-- a new list of new lists -/
def New2 (hid : Addr → Prop) (own : Ix → Option Addr) (H H' : Hp) (a : Addr) (dss : List (List PyData)) : Prop := H a = none ∧ ∃ bs : List Addr, bs.length = dss.length ∧ H' a = some (.lst (bs.map V.ref)) ∧ a ∉ bs ∧ bs.Nodup ∧
  ∀ (j : Nat) (b : Addr) (ds : List PyData), bs[j]? = some b → dss[j]? = some ds → H b = none ∧ ∃ ws, H' b = some (.lst ws) ∧ DdAll (hide (fun c => Oo hid own c ∨ c = a ∨ c ∈ bs) H') ws ds
class LF2 (t : TE) (w : outParam (Ro → (List (List PyData) → Prop) → Prop)) : Prop where
  go : ∀ hs hid own H σ ρ (P : List (List PyData) → Prop) (Q : VK), Rep hs hid own H σ ρ → w ρ P → (∀ dss a H', P dss → Ex H H' → New2 hid own H H' a dss → Q (.ref a) H') → t σ H Q
def wpF2 (i : Nat) (is : List Nat) (a : Ro → (List (List PyData) → Prop) → Prop) (b : Ro → (List SV → Prop) → Prop) : Ro → (List SV → Prop) → Prop := fun ρ P => freeAt ρ i = true ∧ i ∉ is ∧ a ρ fun x => b ρ fun xs => ∀ p, P (.own2 p x :: xs)
instance lp_consF2 {t : TE} {u : TA} {i : Nat} {is : List Nat} {a : Ro → (List (List PyData) → Prop) → Prop} {b : Ro → (List SV → Prop) → Prop} [ha : LF2 t a] [hb : LP u is b] : LP (tCons (tOwn2E t) u) (i :: is) (wpF2 i is a b) := ⟨fun hs hid own H σ ρ P Q r hd hw k => by
  obtain ⟨hf, ni, hw⟩ := hw
  refine ha.go hs hid own H σ ρ _ _ r hw fun dss c H1 p1 e1 nw => ?_
  obtain ⟨n1, bs, bl, h1, nab, nd, hb2⟩ := nw
  let own1 : Ix → Option Addr := fun x => match x with
    | .s k => if k = i then some c else own (.s k)
    | .u k l => if k = i then bs[l]? else own (.u k l)
  have ag : ∀ x, ¬ x.at [i] → own1 x = own x := fun x hx => by
    cases x with
    | s k => simp [Ix.at] at hx; simp [own1, hx]
    | u k l => simp [Ix.at] at hx; simp [own1, hx]
  have at1 : ∀ x b, x.at [i] → own1 x = some b → (x = .s i ∧ b = c) ∨ ∃ l, x = .u i l ∧ bs[l]? = some b := fun x b hx h => by
    cases x with
    | s k => simp [Ix.at] at hx; subst hx; simp [own1] at h; exact .inl ⟨rfl, h.symm⟩
    | u k l => simp [Ix.at] at hx; subst hx; simp [own1] at h; exact .inr ⟨l, rfl, h⟩
  have lw : ∀ {l : Nat} {b : Addr}, bs[l]? = some b → H b = none ∧ H1 b ≠ none := fun {l b} h => by
    have hl := (List.getElem?_eq_some_iff.mp h).1
    obtain ⟨q1, ws, q2, _⟩ := hb2 l b dss[l] h (List.getElem?_eq_getElem (by omega))
    exact ⟨q1, by rw [q2]; exact fun z => nomatch z⟩
  obtain ⟨r1, hB1⟩ := r.ghost (own' := own1) hd hf e1 ag (fun x b hx h => by
    rcases at1 x b hx h with ⟨_, rfl⟩ | ⟨l, _, hl⟩
    · exact ⟨n1, by rw [h1]; exact fun z => nomatch z⟩
    · exact lw hl) (fun x y b hx hy h1 h2 => by
    rcases at1 x b hx h1 with ⟨rfl, rfl⟩ | ⟨l, rfl, hl⟩
    · rcases at1 y b hy h2 with ⟨rfl, _⟩ | ⟨l, rfl, hl⟩
      · rfl
      · exact absurd (List.mem_of_getElem? hl) nab
    · rcases at1 y b hy h2 with ⟨rfl, rfl⟩ | ⟨l2, rfl, hl2⟩
      · exact absurd (List.mem_of_getElem? hl) nab
      · obtain ⟨a1, a2⟩ := List.getElem?_eq_some_iff.mp hl
        obtain ⟨a3, a4⟩ := List.getElem?_eq_some_iff.mp hl2
        have : l = l2 := (List.getElem_inj nd).mp (a2.trans a4.symm)
        rw [this])
  have o1 : own1 (.s i) = some c := by simp [own1]
  have o2 : ∀ l, own1 (.u i l) = bs[l]? := fun l => by simp [own1]
  have hH : Ex (hide (fun d => Oo hid own d ∨ d = c ∨ d ∈ bs) H1) (Bh hid own1 H1) := hide_le fun b hb => by
    rcases hb with z | ⟨x, z⟩
    · exact .inl (.inl z)
    · by_cases hx : x.at [i]
      · rcases at1 x b hx z with ⟨_, rfl⟩ | ⟨l, _, hl⟩
        · exact .inr (.inl rfl)
        · exact .inr (.inr (List.mem_of_getElem? hl))
      · rw [ag x hx] at z; exact .inl (.inr ⟨x, z⟩)
  have S1 : Own2At hid own1 H1 i (.ref c) c dss := ⟨bs.map V.ref, o1, rfl, h1, by rw [List.length_map]; exact bl, fun j ds hj => by
    have hl := (List.getElem?_eq_some_iff.mp hj).1
    have hbj : bs[j]? = some (bs[j]'(by omega)) := List.getElem?_eq_getElem (by omega)
    obtain ⟨q1, ws, q2, q3⟩ := hb2 j _ ds hbj hj
    exact ⟨.ref (bs[j]'(by omega)), by rw [List.getElem?_map, hbj]; rfl, _, ws, by rw [o2]; exact hbj, rfl, q2, q3.mono hH⟩⟩
  refine hb.go hs hid own1 H1 σ ρ _ _ r1 hd p1 fun ss vs own' H' p2 r2 ag2 e2 hB2 sl => ?_
  refine k (.own2 c dss :: ss) (.ref c :: vs) own' H' (p2 c) r2 (fun x hx => ?_) (e1.trans e2) (hB1.trans hB2) (.cons ?_ sl)
  · cases x with
    | s j =>
      have h1 : ¬ j = i ∧ ¬ j ∈ is := by simpa [Ix.at] using hx
      rw [ag2 (.s j) h1.2]
      simp [own1, h1.1]
    | u j l =>
      have h1 : ¬ j = i ∧ ¬ j ∈ is := by simpa [Ix.at] using hx
      rw [ag2 (.u j l) h1.2]
      simp [own1, h1.1]
  · refine Own2At.lift S1 (fun x a hx ha => ⟨?_, (r1.keeps e2 _ a ha).2⟩) hB2
    rw [ag2 x ?_]
    · exact ha
    · rcases hx with hx | ⟨l, hx⟩
      · rw [hx]; exact ni
      · rw [hx]; exact ni⟩
def setAll (ρ : Ro) : List Nat → List SV → Ro
  | i :: is, s :: ss => setAll (ρ.set i (some s)) is ss
  | _, _ => ρ
def setAllV (σ : L2.St) : List Nat → List V → L2.St
  | i :: is, v :: vs => setAllV (σ.set i (some v)) is vs
  | _, _ => σ
theorem Rep.putAll {hs : Hp} {hid : Addr → Prop} {own : Ix → Option Addr} {H : Hp} : ∀ {is : List Nat} {vs : List V} {ss : List SV} {σ : L2.St} {ρ : Ro}, Rep hs hid own H σ ρ → SatL hid own H is vs ss → Rep hs hid own H (setAllV σ is vs) (setAll ρ is ss)
  | _, _, _, _, _, r, .nil => r
  | _, _, _, _, _, r, .cons h t => (r.putS _ h).putAll t
class GN (g : TGs) (is : outParam (List Nat)) : Prop where
  go : ∀ vs σ H Q, vs.length = is.length → Q (setAllV σ is vs) H → g vs σ H Q
instance gn_nil : GN gNil [] := ⟨fun vs σ H Q hl q => ⟨List.length_eq_zero_iff.mp hl, by rw [List.length_eq_zero_iff.mp hl] at q; exact q⟩⟩
instance gn_cons {i : Nat} {g : TGs} {is : List Nat} [h : GN g is] : GN (gCons (gName i) g) (i :: is) := ⟨fun vs σ H Q hl q => by
  cases vs with
  | nil => cases hl
  | cons v r => exact ⟨v, r, rfl, h.go r _ H Q (by simpa using hl) q⟩⟩
theorem SatL.lens {hid : Addr → Prop} {own : Ix → Option Addr} {H : Hp} : ∀ {is : List Nat} {vs : List V} {ss : List SV}, SatL hid own H is vs ss → vs.length = is.length ∧ ss.length = is.length
  | _, _, _, .nil => ⟨rfl, rfl⟩
  | _, _, _, .cons _ t => ⟨congrArg (· + 1) t.lens.1, congrArg (· + 1) t.lens.2⟩
theorem SatL.mono {hid : Addr → Prop} {own : Ix → Option Addr} {H H' : Hp} (e : Ex H H') : ∀ {is : List Nat} {vs : List V} {ss : List SV}, SatL hid own H is vs ss → SatL hid own H' is vs ss
  | _, _, _, .nil => .nil
  | _, _, _, .cons h t => .cons (h.mono e) (t.mono e)
theorem dropLn_idem (ρ : Ro) : dropLn (dropLn ρ) = dropLn ρ := by
  unfold dropLn
  rw [List.map_map]
  apply List.map_congr_left
  intro o _
  cases o with
  | none => rfl
  | some s => cases s <;> rfl
def wParN (n : Nat) (is : List Nat) (w : Ro → (List SV → Prop) → Prop) : WS := fun E ρ => is.length = n ∧ n ≤ 1000 ∧ w (dropLn ρ) fun ss => E.nx (setAll (dropLn ρ) is ss)
instance (priority := 2000) ls_parN {K : PySem.W.Frag} {n : Nat} {t : TA} {g : TGs} {is : List Nat} {w : Ro → (List SV → Prop) → Prop} [hg : GN g is] [ht : LP t is w] : LS (tAsg (tTupF t) (gTup K n g)) (wParN n is w) := ⟨fun hs hid D E own H σ ρ k r hw => by
  obtain ⟨hn, hl, hw⟩ := hw
  refine ht.go hs hid own H σ _ _ _ r.drop (dropLn_idem ρ) hw fun ss vs own' H' p r' ag e hB sl => ?_
  have lens := sl.lens
  refine ⟨by rw [lens.1]; exact Evl.sz_of (by omega), fun q o hq ho => ?_⟩
  have e2 := Evl.Ex.new hq (o := .frz o (.tup vs))
  refine ⟨q, vs, rfl, ?_, ?_, hg.go vs σ _ _ lens.1 (k.nx own' _ _ _ p ((r'.mono e2).putAll (sl.mono e2)))⟩
  · exact (show Ti (upd H' q (.frz o (.tup vs))) q vs from ⟨o, upd_same, ho⟩).sq
  · exact lens.1.trans hn⟩
/-- x, y, z = a, b, c with lists of one's own among them -/
def tPar3O (i j l : Nat) (ta : TA) : TS := tPar3 i j l ta
theorem parO3 {X : Cx} {st : Stmt} {i j l : Nat} {ta : TA} (h : PS X st (tPar3 i j l ta)) : PS X st (tPar3O i j l ta) := h
instance ls_par3O {i j l : Nat} {t : TA} {w : Ro → (List SV → Prop) → Prop} [ht : LP t [i, j, l] w] : LS (tPar3O i j l t) (wParN 3 [i, j, l] w) := ⟨fun hs hid D E own H σ ρ k r hw => by
  obtain ⟨_, _, hw⟩ := hw
  refine ht.go hs hid own H σ _ _ _ r.drop (dropLn_idem ρ) hw fun ss vs own' H' p r' ag e hB sl => ?_
  have lens := sl.lens
  have := k.nx own' _ _ _ p (r'.putAll sl)
  match vs, lens.1 with
  | [a, b, c], _ => exact ⟨a, b, c, rfl, this⟩⟩
def tParO (i j : Nat) (ta : TA) : TS := tPar i j ta
theorem parO2 {X : Cx} {st : Stmt} {i j : Nat} {ta : TA} (h : PS X st (tPar i j ta)) : PS X st (tParO i j ta) := h
instance ls_parO {i j : Nat} {t : TA} {w : Ro → (List SV → Prop) → Prop} [ht : LP t [i, j] w] : LS (tParO i j t) (wParN 2 [i, j] w) := ⟨fun hs hid D E own H σ ρ k r hw => by
  obtain ⟨_, _, hw⟩ := hw
  refine ht.go hs hid own H σ _ _ _ r.drop (dropLn_idem ρ) hw fun ss vs own' H' p r' ag e hB sl => ?_
  have lens := sl.lens
  have := k.nx own' _ _ _ p (r'.putAll sl)
  match vs, lens.1 with
  | [a, b], _ => exact ⟨a, b, rfl, this⟩⟩
/-! ### [[] for ..] -/
def wf2Nil (i : WI) (vs : List Nat) : Ro → (List (List PyData) → Prop) → Prop := fun ρ P => i ρ fun xs => xs.length ≤ 1000 ∧ P (List.replicate xs.length [])
instance lf2_nil {wi : TI} {k : Nat} {vs : List Nat} {i : WI} [hi : LIB wi i] [hv : SubL [k] vs] : LF2 (tLc wi (gName k) tYes (tLst tNil) vs) (wf2Nil i vs) := ⟨fun hs hid own H σ ρ P Q r hw kk => by
  refine hi.go hs hid own H σ ρ _ _ r hw fun xs J H1 p e1 hJ D hD => ?_
  obtain ⟨hlen, p⟩ := p
  refine ⟨fun n m H' => ∃ bs : List Addr, m = xs.length - n ∧ n ≤ xs.length ∧ bs.length = n ∧ Ex H1 H' ∧ H' D = some (.lst (bs.map V.ref)) ∧ D ∉ bs ∧ bs.Nodup ∧ ∀ b ∈ bs, H1 b = none ∧ H' b = some (.lst []), ⟨xs.length, [], rfl, Nat.zero_le _, rfl, Evl.Ex.new hD, upd_same, by simp, by simp, fun b hb => by cases hb⟩, ?_⟩
  rintro n m H' ⟨bs, rfl, hn, hl, e2, hacc, hDn, nd, hb⟩
  by_cases hlt : n < xs.length
  · have hx : xs[n]? = some xs[n] := List.getElem?_eq_getElem hlt
    obtain ⟨hgo, hyld⟩ := hJ.step n _ H' e2 hx
    refine .inr ⟨hgo, fun G => ∃ bs : List Addr, bs.length = n + 1 ∧ Ex H1 G ∧ G D = some (.lst (bs.map V.ref)) ∧ D ∉ bs ∧ bs.Nodup ∧ ∀ b ∈ bs, H1 b = none ∧ G b = some (.lst []), ?_, ?_⟩
    · rintro G ⟨bs, a1, a2, a3, a4, a5, a6⟩
      exact ⟨xs.length - (n + 1), by omega, bs, rfl, hlt, a1, a2, a3, a4, a5, a6⟩
    · intro x H'' hy
      obtain ⟨rfl, hxs⟩ := hyld x H'' hy
      refine ⟨(wipe_set (wipe σ vs) vs k _ (hv.out k (by simp))).trans (wipe_wipe σ vs), ?_⟩
      simp only [tYes, if_true]
      refine ⟨(by show 0 ≤ sizeLine; decide), fun q hq => ?_⟩
      have nq : D ≠ q := ne_of_none hacc hq
      refine ⟨bs.map V.ref, by rw [upd_ne nq]; exact hacc, by rw [List.length_map, hl]; exact Evl.sz_lt (by omega), bs ++ [q], by simp [hl], ?_, ?_, ?_, ?_, fun b hm => ?_⟩
      · exact Evl.Ex.mut (e2.trans (Evl.Ex.new hq)) hD
      · rw [upd_same, List.map_append]; rfl
      · simp only [List.mem_append, List.mem_singleton, not_or]
        exact ⟨hDn, nq⟩
      · refine List.nodup_append.mpr ⟨nd, by simp, fun a ha b hb2 => ?_⟩
        rw [List.mem_singleton.mp hb2]
        exact fun z => by
          have := (hb a ha).2
          rw [z, hq] at this
          cases this
      · rcases List.mem_append.mp hm with hm | hm
        · have h1 := hb b hm
          have n1 : b ≠ q := fun z => by rw [z, hq] at h1; cases h1.2
          have n2 : b ≠ D := fun z => hDn (z ▸ hm)
          exact ⟨h1.1, by rw [upd_ne n2, upd_ne n1]; exact h1.2⟩
        · rw [List.mem_singleton.mp hm]
          exact ⟨Evl.fresh_back e2 hq, by rw [upd_ne (Ne.symm nq)]; exact upd_same⟩
  · have hn2 : n = xs.length := by omega
    refine .inl ⟨by rw [hn2]; exact hJ.stop H' e2, kk (List.replicate xs.length []) D H' p (e1.trans e2) ⟨Evl.fresh_back e1 hD, bs, by rw [List.length_replicate, hl, hn2], hacc, hDn, nd, fun j b ds h1 h2 => ?_⟩⟩
    obtain ⟨q1, q2⟩ := hb b (List.mem_of_getElem? h1)
    rw [List.getElem?_replicate] at h2
    split at h2
    · cases h2
      exact ⟨Evl.fresh_back e1 q1, [], q2, .nil⟩
    · cases h2⟩
end Lr

namespace Lr
open PySem L2 PySem.Spec PyProof.Rows GenW
/-! ### generators by data -/
structure PEndsG where
  nx : List PyData → Ro → Prop
  rt : List PyData → Prop
  bk : List PyData → Ro → Prop := fun _ _ => False
  ct : List PyData → Ro → Prop := fun _ _ => False
structure EOkG (hs : Hp) (hid : Addr → Prop) (D : GEnds) (E : PEndsG) : Prop where
  nx : ∀ own H σ ρ ys ds, E.nx ds ρ → Rep hs hid own H σ ρ → DdAll (Bh hid own H) ys ds → D.nx ys σ H
  bk : ∀ own H σ ρ ys ds, E.bk ds ρ → Rep hs hid own H σ ρ → DdAll (Bh hid own H) ys ds → D.bk ys σ H
  ct : ∀ own H σ ρ ys ds, E.ct ds ρ → Rep hs hid own H σ ρ → DdAll (Bh hid own H) ys ds → D.ct ys σ H
  rt : ∀ H ys ds, E.rt ds → Ex hs H → DdAll (hide hid H) ys ds → D.rt ys .non H
abbrev WGn := PX → PEndsG → List PyData → Ro → Prop
class LGn (E : XK) (t : TGn) (w : outParam WGn) : Prop where
  go : ∀ hs hid D Ed own H σ ρ xp ys ds, EOkG hs hid D Ed → XOk hs hid E xp → Rep hs hid own H σ ρ → DdAll (Bh hid own H) ys ds → w xp Ed ds ρ → t D ys σ H
/-- what is not one's own now, stays -/
noncomputable def hs1 (own : Ix → Option Addr) (H : Hp) : Hp := hide (fun a => ∃ j, own j = some a) H
section
variable {hs : Hp} {hid : Addr → Prop} {own own' : Ix → Option Addr} {H H' : Hp} {σ σ' : L2.St} {ρ ρ' : Ro} {ys : List V} {ds : List PyData}
theorem Rep.base (r : Rep hs hid own H σ ρ) : Ex hs (hs1 own H) := fun a o h => (hide_of (fun ⟨j, z⟩ => by rw [(r.new j a z).1] at h; cases h)).trans (r.ex _ _ h)
theorem Rep.based (r : Rep hs hid own H σ ρ) : Rep (hs1 own H) hid own H σ ρ := ⟨hide_ex, r.occ, fun j a h => ⟨hide_yes ⟨j, h⟩, (r.new j a h).2⟩, r.inj, r.len, r.get⟩
theorem bh_hs1 : Ex (Bh hid own H) (hide hid (hs1 own H)) := fun a o h => by
  obtain ⟨h1, h2⟩ := hide_some h
  exact (hide_of (fun z => h1 (.inl z))).trans ((hide_of (fun z => h1 (.inr z))).trans h2)
theorem Rep.since (r : Rep (hs1 own H) hid own' H' σ' ρ') : Ex (hide hid (hs1 own H)) (Bh hid own' H') := fun a o h => by
  obtain ⟨h1, h2⟩ := hide_some h
  refine (hide_of (fun z => ?_)).trans (r.ex _ _ h2)
  rcases z with z | ⟨j, z⟩
  · exact h1 z
  · rw [(r.new j a z).1] at h2; cases h2
theorem EOkG.at {D : GEnds} {Ed : PEndsG} (k : EOkG hs hid D Ed) (r : Rep hs hid own H σ ρ) (t : DdAll (Bh hid own H) ys ds) :
    EOk (hs1 own H) hid (D.at ys) { nx := Ed.nx ds, rt := fun s => s = .d .none ∧ Ed.rt ds, bk := Ed.bk ds, ct := Ed.ct ds } := by
  have t' := t.mono bh_hs1
  refine ⟨fun own' H' σ' ρ' p r' => k.nx own' H' σ' ρ' ys ds p (r'.start r.base) (t'.mono r'.since), fun own' H' σ' ρ' p r' => k.bk own' H' σ' ρ' ys ds p (r'.start r.base) (t'.mono r'.since), fun own' H' σ' ρ' p r' => k.ct own' H' σ' ρ' ys ds p (r'.start r.base) (t'.mono r'.since), fun s v H' p e q => ?_⟩
  obtain ⟨rfl, p⟩ := p
  cases q
  exact k.rt H' ys ds p (r.base.trans e) (t'.mono (hide_mono e))
end
def wGPlain (a : PX → WS) : WGn := fun xp Ed ds ρ => a xp { nx := Ed.nx ds, rt := fun s => s = .d .none ∧ Ed.rt ds, bk := Ed.bk ds, ct := Ed.ct ds } ρ
instance lgn_plain {E : XK} {t : TS} {a : PX → WS} [h : LSX E t a] : LGn E (tPlain t) (wGPlain a) := ⟨fun hs hid D Ed own H σ ρ xp ys ds k x r t hw =>
  h.go (hs1 own H) hid (D.at ys) _ own H σ ρ xp (k.at r t) (x.mono r.base fun _ z => z) r.based hw⟩
def wG0 : WGn := fun _ Ed ds ρ => Ed.nx ds ρ
instance lgn_0 {E : XK} : LGn E tG0 wG0 := ⟨fun hs hid D Ed own H σ ρ xp ys ds k x r t hw => k.nx own H σ ρ ys ds hw r t⟩
def wGThen (a b : WGn) : WGn := fun xp Ed ds ρ => a xp { Ed with nx := fun ds ρ => b xp Ed ds ρ } ds ρ
instance lgn_then {E : XK} {t u : TGn} {a b : WGn} [ha : LGn E t a] [hb : LGn E u b] : LGn E (tGThen t u) (wGThen a b) := ⟨fun hs hid D Ed own H σ ρ xp ys ds k x r t hw =>
  ha.go hs hid _ { Ed with nx := fun ds ρ => b xp Ed ds ρ } own H σ ρ xp ys ds ⟨fun own H σ ρ ys ds p r t => hb.go hs hid D Ed own H σ ρ xp ys ds k x r t p, k.bk, k.ct, k.rt⟩ x r t hw⟩
def wGIf (c : WT) (a b : WGn) : WGn := fun xp Ed ds ρ => c ρ fun t => if t = true then a xp Ed ds ρ else b xp Ed ds ρ
instance lgn_if {E : XK} {c : TT} {t u : TGn} {wc : WT} {a b : WGn} [hc : LT c wc] [ha : LGn E t a] [hb : LGn E u b] : LGn E (tGIf c t u) (wGIf wc a b) := ⟨fun hs hid D Ed own H σ ρ xp ys ds k x r t hw => by
  refine hc.go hs hid own H σ ρ _ _ r hw fun c H' p e => ?_
  cases c with
  | true => exact iteT (ha.go hs hid D Ed own H' σ ρ xp ys ds k x (r.mono e) (t.mono (hide_mono e)) (by simpa using p))
  | false => exact iteF (hb.go hs hid D Ed own H' σ ρ xp ys ds k x (r.mono e) (t.mono (hide_mono e)) (by simpa using p))⟩
def wGYield (e : WE) : WGn := fun _ Ed ds ρ => ds.length < 100000 ∧ e ρ fun s => asD s fun d => Ed.nx (ds ++ [d]) ρ
instance lgn_yield {E : XK} {te : TE} {e : WE} [he : LE te e] : LGn E (tGYield te) (wGYield e) := ⟨fun hs hid D Ed own H σ ρ xp ys ds k x r t hw => by
  refine ⟨by rw [t.len]; exact Evl.sz_lt hw.1, he.go hs hid own H σ ρ _ _ r hw.2 fun s v H' p e q => ?_⟩
  unfold asD at p
  split at p
  · exact k.nx own H' σ ρ _ _ p (r.mono e) ((t.mono (hide_mono e)).app (.cons q .nil))
  · exact p.elim⟩
def tGRel (i : Nat) (t : TGn) : TGn := t
theorem gss_rel {X : Cx} {st : List Stmt} {t : TGn} (i : Nat) (h : GSs X st t) : GSs X st (tGRel i t) := h
theorem gss_one {X : Cx} {st : Stmt} {t : TGn} (h : GS X st t) : GSs X [st] (tGThen t tG0) := gss_cons h gss_nil
/-! loops -/
def wGFor (g : WG) (b : WGn) (xp : PX) : List SV → PEndsG → List PyData → Ro → Prop
  | [], E, ds, ρ => E.nx ds ρ
  | x :: r, E, ds, ρ => g x ρ fun ρ' => b xp { E with nx := wGFor g b xp r E, ct := wGFor g b xp r E, bk := E.nx } ds ρ'
def wGForS (i : WI) (g : WG) (b : WGn) : WGn := fun xp E ds ρ => i ρ fun xs => wGFor g b xp xs E ds ρ
instance lgn_for {E : XK} {wi : TI} {g : TG} {tb : TGn} {js : List Nat} {i : WI} {wg : WG} {b : WGn} [hi : LI wi i] [hg : LG g js wg] [hb : LGn E tb b] : LGn E (tGFor wi g tb) (wGForS i wg b) := ⟨fun hs hid D Ed own H σ ρ xp ys ds k x r t hw => by
  refine hi.go hs hid own H σ ρ _ _ r hw fun xs J H1 p e1 hJ => ?_
  have r1 := r.mono e1
  have t1 := t.mono (hide_mono e1) (H' := Bh hid own H1)
  have hss := r1.base
  have x1 : XOk (hs1 own H1) hid E xp := x.mono hss fun _ z => z
  have hB1 : Ex (Bh hid own H1) (hs1 own H1) := hide_le fun a h => .inr h
  refine ⟨fun n m ys' σ' H' => ∃ own' ρ' ds', m = xs.length - n ∧ n ≤ xs.length ∧ Rep (hs1 own H1) hid own' H' σ' ρ' ∧ DdAll (Bh hid own' H') ys' ds' ∧ wGFor wg b xp (xs.drop n) Ed ds' ρ', ⟨xs.length, own, ρ, ds, rfl, Nat.zero_le _, r1.based, t1, p⟩, ?_⟩
  rintro n m ys' σ' H' ⟨own', ρ', ds', rfl, hn, r', t', hp⟩
  by_cases hlt : n < xs.length
  · have hx : xs[n]? = some xs[n] := List.getElem?_eq_getElem hlt
    rw [List.drop_eq_getElem_cons hlt] at hp
    obtain ⟨hgo, hyld⟩ := hJ.step n _ H' (hB1.trans r'.ex) hx
    refine .inr ⟨hgo, fun ys2 σ2 H2 => ∃ own2 ρ2 ds2, Rep (hs1 own H1) hid own2 H2 σ2 ρ2 ∧ DdAll (Bh hid own2 H2) ys2 ds2 ∧ wGFor wg b xp (xs.drop (n + 1)) Ed ds2 ρ2, ?_, ?_⟩
    · rintro ys2 σ2 H2 ⟨own2, ρ2, ds2, a1, a2, a3⟩
      exact ⟨xs.length - (n + 1), by omega, own2, ρ2, ds2, rfl, hlt, a1, a2, a3⟩
    · intro v H'' hy
      obtain ⟨rfl, hxs⟩ := hyld v H'' hy
      have hxs' : Re (Bh hid own' H'') v xs[n] := hxs.mono (bh_hs1.trans r'.since)
      refine hg.go (hs1 own H1) hid own' H'' σ' ρ' _ _ _ _ r' hxs' hp fun σ2 ρ2 p2 r2 _ => ?_
      exact hb.go (hs1 own H1) hid _ { Ed with nx := wGFor wg b xp (xs.drop (n + 1)) Ed, ct := wGFor wg b xp (xs.drop (n + 1)) Ed, bk := Ed.nx } own' H'' σ2 ρ2 xp ys' ds' ⟨fun own H σ ρ ys ds p r t => ⟨own, ρ, ds, r, t, p⟩, fun own H σ ρ ys ds p r t => k.nx own H σ ρ ys ds p (r.start hss) t, fun own H σ ρ ys ds p r t => ⟨own, ρ, ds, r, t, p⟩, fun H ys ds p e q => k.rt H ys ds p (hss.trans e) q⟩ x1 r2 t' p2
  · have hn2 : n = xs.length := by omega
    subst hn2
    rw [List.drop_of_length_le (Nat.le_refl _)] at hp
    exact .inl ⟨hJ.stop H' (hB1.trans r'.ex), k.nx own' H' σ' ρ' ys' ds' hp (r'.start hss) t'⟩⟩
theorem gfor_inv {g : WG} {b : WGn} {xp : PX} {xs : List SV} {E : PEndsG} {ds : List PyData} {ρ : Ro} (I : Nat → List PyData → Ro → Prop) (h0 : I 0 ds ρ)
    (hs : ∀ i x ds' ρ', xs[i]? = some x → I i ds' ρ' → ∀ N : List PyData → Ro → Prop, (∀ ds2 ρ2, I (i + 1) ds2 ρ2 → N ds2 ρ2) → g x ρ' fun ρ2 => b xp { E with nx := N, ct := N, bk := E.nx } ds' ρ2) (hd : ∀ ds' ρ', I xs.length ds' ρ' → E.nx ds' ρ') : wGFor g b xp xs E ds ρ := by
  have key : ∀ (n : Nat) (ds : List PyData) (ρ : Ro), n ≤ xs.length → I n ds ρ → wGFor g b xp (xs.drop n) E ds ρ := by
    intro n
    induction h : xs.length - n generalizing n with
    | zero =>
      intro ds ρ hn hi
      have e : n = xs.length := by omega
      subst e
      rw [List.drop_length]
      exact hd ds ρ hi
    | succ m ih =>
      intro ds ρ hn hi
      have lt : n < xs.length := by omega
      rw [List.drop_eq_getElem_cons lt]
      exact hs n xs[n] ds ρ (List.getElem?_eq_getElem lt) hi _ fun ds2 ρ2 h2 => ih (n + 1) (by omega) ds2 ρ2 (by omega) h2
  have := key 0 ds ρ (Nat.zero_le _) h0
  simpa using this
def wGWhile (c : WT) (b : WGn) : WGn := fun xp E ds ρ => ∃ W : Nat → List PyData → Ro → Prop, (∃ m, W m ds ρ) ∧ ∀ m ds ρ, W m ds ρ → c ρ fun t => if t = true then b xp { E with nx := fun ds' ρ' => ∃ m', m' < m ∧ W m' ds' ρ', ct := fun ds' ρ' => ∃ m', m' < m ∧ W m' ds' ρ', bk := E.nx } ds ρ else E.nx ds ρ
instance lgn_while {E : XK} {c : TT} {tb : TGn} {wc : WT} {b : WGn} [hc : LT c wc] [hb : LGn E tb b] : LGn E (tGWhile c tb) (wGWhile wc b) := ⟨fun hs hid D Ed own H σ ρ xp ys ds k x r t hw => by
  obtain ⟨W, ⟨m0, w0⟩, turn⟩ := hw
  refine ⟨fun m ys σ H => ∃ own ρ ds, Rep hs hid own H σ ρ ∧ DdAll (Bh hid own H) ys ds ∧ W m ds ρ, ⟨m0, own, ρ, ds, r, t, w0⟩, ?_⟩
  rintro m ys σ1 H1 ⟨own1, ρ1, ds1, r1, t1, w1⟩
  refine hc.go hs hid own1 H1 σ1 ρ1 _ _ r1 (turn m ds1 ρ1 w1) fun c H2 p e => ?_
  have r2 := r1.mono e
  have t2 : DdAll (Bh hid own1 H2) ys ds1 := t1.mono (hide_mono e)
  cases c with
  | true =>
    refine iteT ⟨fun ys' σ' H' => ∃ own' ρ' ds', Rep hs hid own' H' σ' ρ' ∧ DdAll (Bh hid own' H') ys' ds' ∧ ∃ m', m' < m ∧ W m' ds' ρ', ?_, ?_⟩
    · rintro ys' σ' H' ⟨own', ρ', ds', a, t, m', b1, b2⟩
      exact ⟨m', b1, own', ρ', ds', a, t, b2⟩
    · exact hb.go hs hid _ { Ed with nx := fun ds' ρ' => ∃ m', m' < m ∧ W m' ds' ρ', ct := fun ds' ρ' => ∃ m', m' < m ∧ W m' ds' ρ', bk := Ed.nx } own1 H2 σ1 ρ1 xp ys ds1 ⟨fun own H σ ρ ys ds p r t => ⟨own, ρ, ds, r, t, p⟩, k.nx, fun own H σ ρ ys ds p r t => ⟨own, ρ, ds, r, t, p⟩, k.rt⟩ x r2 t2 (by simpa using p)
  | false => exact iteF (k.nx own1 H2 σ1 ρ1 ys ds1 (by simpa using p) r2 t2)⟩
/-! ### a generator def -/
abbrev RG := List SV → (List PyData → Prop) → PX → Prop
def spG (n : Nat) (R : RG) : SpG := fun vs H Q E => ∃ hid ss P xp, ss.length = n ∧ (∀ a, hid a → H a ≠ none) ∧ ReAll (hide hid H) vs ss ∧ R ss P xp ∧ (∀ ds ys H', P ds → Ex H H' → DdAll (hide hid H') ys ds → Q ys H') ∧ XOk H hid E xp
theorem okGn {P : Program} {w : World} {K : PySem.W.Frag} {mg : Str → Option Value} {base : Heap} {x qual : Str} {st : Stmt} {f : Addr} {fd : FuncData} {N ps : List Str} {k : Nat} {R : RG} (F : Fun K x qual st f fd) (S : GScope N ps (defScope st))
    (hbody : ∀ (cdv : Value) (A : Around) (outer : List Env) (s : Shared) (H : Hp) (E : XK) (pn : List (Addr × Obj)), Room k (A.deeper (envOfC qual (defScope st) s.heap.objs.size f cdv)) →
      ∃ t w', GSs (gcxOf P w K mg base N qual (defScope st) f cdv A outer s H E pn) (defBody st) t ∧ LGn E t w' ∧ ∀ ss Pd xp, ss.length = ps.length → R ss Pd xp → w' xp { nx := fun ds _ => Pd ds, rt := Pd } [] (ss.map some ++ List.replicate (N.length - ss.length) none)) :
    GFn P w K mg base (k + 1) f fd ps (spG ps.length R) := by
  obtain ⟨oc, od, kV, doc, pm, an, cdv, ct, osl, rfl, lk, hcd⟩ := F.ex
  refine gfn_of lk hcd S (fun vs H Q E h => ?_) (fun A outer s H vs Q E pn hr h => ?_)
  · obtain ⟨hid, ss, P, xp, h1, _, h2, _⟩ := h
    rw [h2.len]; exact h1
  · obtain ⟨hid, ss, Pd, xp, h1, ho, h2, hR, kk, hx⟩ := h
    obtain ⟨t, w', ht, hl, hw⟩ := hbody cdv A outer s H E pn hr
    refine ⟨t, ht, hl.go H hid _ { nx := fun ds _ => Pd ds, rt := Pd } (fun _ => none) H _ _ xp [] [] ⟨fun own H' σ ρ ys ds p r t => ?_, fun own H' σ ρ ys ds p r t => p.elim, fun own H' σ ρ ys ds p r t => p.elim, fun H' ys ds p e q => ⟨rfl, kk ds ys H' p e q⟩⟩ hx (start_rep ho h2) .nil (hw ss Pd xp h1 hR)⟩
    exact kk ds ys H' p r.ex (t.mono (hide_le oo_le))
/-- a generator def, by its name -/
def CalG (P : Program) (w : World) (K : PySem.W.Frag) (mg : Str → Option Value) (base : Heap) (k : Nat) (x : Str) (ps : List Str) (sp : SpG) : Prop :=
  ∃ f fd, GFn P w K mg base k f fd ps sp ∧ mg x = some (.ref f) ∧ PySem.W.keepIn K (.ref f) = true ∧ Binds K fd ps []
def nsB (K : PySem.W.Frag) (C : Addr) : Prop := PySem.W.subIn K (.ref C) (.type "StopIteration") = some false
def Ens (K : PySem.W.Frag) (E : XK) : XK := fun cls d H => E cls d H ∧ PySem.W.subIn K cls (.type "StopIteration") = some false
theorem ens_ns {K : PySem.W.Frag} {E : XK} : NoStop K (Ens K E) := fun cls d H h => h.2
theorem pe_lstG {X : Cx} {k : Nat} {x : Str} {ps : List Str} {sp : SpG} {E : XK} {e : Expr} {es : List Expr} {t : TA} {p pos p2 pos2 : Pos} (C : CalG X.prog X.w X.K X.mg X.base k x ps sp) (hr : Room (k + 3) X.A) (tk : Takes X (fun cls d _ H => E cls d H)) (hg : Gl X x) (hgl : Gl X "list") (hml : X.mg "list" = none) (ha : PA X (e :: es) t)
    (hdb : (x == ("__debug__" : Str)) = false := by decide) (he : starEach (e :: es) X.env = (false, eval e X.env) :: starEach es X.env := by rfl) (hpl : (backTo pos (starEach es X.env)).any (·.1) = false := by rfl)
    (hs : starEach [.Call (.Name x p) (e :: es) [] pos] X.env = (false, eval (.Call (.Name x p) (e :: es) [] pos) X.env) :: starEach [] X.env := by rfl) :
    PE X (.Call (.Name "list" p2) [.Call (.Name x p) (e :: es) [] pos] [] pos2) (tListG (tCallG sp [] (Ens X.K E) t)) := by
  obtain ⟨f, fd, G, m, kp, b⟩ := C
  exact pe_listG (pgen_call G (hr.mono (by omega)) hg m kp b .nil ha hdb he hpl) (passes_call tk fun _ _ _ _ h => h.1) ens_ns hr hgl hml bt_list (by decide) (by decide) hs
def wLstG (K : PySem.W.Frag) (n : Nat) (R : RG) (a : WA) : PX → WE := fun xp ρ P => a ρ fun ss => ss.length = n ∧ R ss (fun ds => ds.length ≤ 100000 ∧ P (.d (.list ds))) fun x => nsB K x.C ∧ xp x
instance lex_lstG {K : PySem.W.Frag} {E : XK} {n : Nat} {R : RG} {t : TA} {a : WA} [ha : LA t a] : LEX E (tListG (tCallG (spG n R) [] (Ens K E) t)) (wLstG K n R a) := ⟨fun hs hid own H σ ρ xp P Q r hx hw k => by
  refine ha.go hs hid own H σ ρ _ _ r hw fun ss vs H1 p e1 q => ?_
  have r1 := r.mono e1
  rw [List.append_nil]
  refine ⟨Oo hid own, ss, _, _, p.1, r1.occ, q, p.2, fun ds ys H' pd e2 t => fun b hb => ?_, fun x d H' px e xr => ⟨(hx.mono r1.ex oo_le) x d H' px.2 e xr, px.1⟩⟩
  have r2 := r1.mono e2
  have e3 := Evl.Ex.new hb (o := .lst ys)
  refine k _ _ _ pd.2 ((e1.trans e2).trans e3) (.lst ((hide_of (r2.notO hb)).trans upd_same) (t.mono (hide_mono e3)))⟩
end Lr

namespace Lr
open PySem L2 PySem.Spec PyProof.Rows
/-! ### texts -/
def asS (x : SV) (P : Str → Prop) : Prop := match x with
  | .d (.str z) => P z
  | _ => False
def asS1 (ss : List SV) (P : Str → Prop) : Prop := match ss with
  | [.d (.str z)] => P z
  | _ => False
theorem Rb.asS {hid : Addr → Prop} {own : Ix → Option Addr} {H : Hp} {v : V} {s : SV} {P : Str → Prop} (q : Rb hid own H v s) (h : asS s P) : ∃ z, v = .str z ∧ P z := by
  unfold Lr.asS at h
  split at h
  · exact ⟨_, q.str, h⟩
  · exact h.elim
/-- the signs of a text -/
def chD (z : Str) : List PyData := z.cps.toList.map fun c => .str ⟨#[c]⟩
theorem it_enumS {B0 Bi : Hp} (z : Str) : ItOkW B0 Bi (ItS z) (numb (chD z)) := by
  refine ⟨fun i s H' e hs => ?_, fun H' e => ?_⟩
  · obtain ⟨d, hd, rfl⟩ := numb_get hs
    unfold chD at hd
    rw [List.getElem?_map] at hd
    cases q : z.cps.toList[i]? with
    | none => rw [q] at hd; cases hd
    | some c =>
      rw [q] at hd
      cases hd
      rw [Array.getElem?_toList] at q
      refine ⟨(Array.getElem?_eq_some_iff.mp q).1, ?_⟩
      rintro v H'' ⟨T, c', rfl, hT, hc, rfl⟩
      rw [q] at hc
      cases hc
      exact ⟨T, _, rfl, hT, rfl, .cons (.int _) (.cons (.str _) .nil)⟩
  · show z.cps.size ≤ _
    rw [numb_len]
    simp [chD]
def wEnumS (a : WA) : WIW := fun ρ P => a ρ fun ss => asS1 ss fun z => P (numb (chD z))
instance liw_enumS {t : TA} {a : WA} [ha : LAB t a] : LIW (iEnumS t) (wEnumS a) := ⟨fun hs hid own H σ ρ P R r hw k => by
  refine ha.go hs hid own H σ ρ _ _ r hw fun ss vs H' p e q => ?_
  unfold asS1 at p
  split at p
  · obtain ⟨v, rfl, rv⟩ := rb1 q
    rw [rv.str]
    exact ⟨_, rfl, k _ _ H' p e (it_enumS _)⟩
  · exact p.elim⟩
def rCntS : V → List V → Hp → VK → Prop := fun x xs H Q => ∃ a b, x = .str a ∧ xs = [.str b] ∧ Q (.int (Txt.count a b)) H
theorem pe_cntS {X : Cx} {o e : Expr} {to te : TE} {apos pos : Pos} (ho : PE X o to) (he : PE X e te) (hs : starEach [e] X.env = [(false, eval e X.env)] := by rfl) (hbase : attributeBase o "count" X.env (eval o X.env) = eval o X.env := by rfl) (hline : (apos.endLine == pos.line) = true := by rfl) :
    PE X (.Call (.Attribute o "count" apos) [e] [] pos) (tM1 rCntS to te) := pe_m1 F.slot_str_count F.type_str_count mt_count ho he hs hbase hline
def wM1 (f : Str → SV → (SV → Prop) → Prop) (a b : WE) : WE := fun ρ P => a ρ fun x => asS x fun s => b ρ fun y => f s y P
class DM (r : V → List V → Hp → VK → Prop) (f : outParam (Str → SV → (SV → Prop) → Prop)) : Prop where
  go : ∀ hid own H s y sy (P : SV → Prop) (Q : VK), (∀ p, H p = none → ¬ Oo hid own p) → Rb hid own H y sy → f s sy P → (∀ s v H', P s → Ex H H' → Re (Bh hid own H') v s → Q v H') → r (.str s) [y] H Q
instance le_m1 {r : V → List V → Hp → VK → Prop} {f : Str → SV → (SV → Prop) → Prop} {to te : TE} {a b : WE} [d : DM r f] [ha : LB to a] [hb : LB te b] : LE (tM1 r to te) (wM1 f a b) := ⟨fun hs hid own H σ ρ P Q r hw k => by
  refine ha.go hs hid own H σ ρ _ _ r hw fun sx x H1 p1 e1 q1 => ?_
  obtain ⟨z, rfl, p1⟩ := q1.asS p1
  refine ⟨⟨z, rfl⟩, hb.go hs hid own H1 σ ρ _ _ (r.mono e1) p1 fun sy y H2 p2 e2 q2 => ?_⟩
  exact d.go hid own H2 z y sy P Q (fun p hp => ((r.mono e1).mono e2).notO hp) q2 p2 fun s v H' p e q => k s v H' p ((e1.trans e2).trans e) q⟩
def fCntS (s : Str) (y : SV) (P : SV → Prop) : Prop := asS y fun t => P (.d (.int (Txt.count s t)))
instance dm_cnt : DM rCntS fCntS := ⟨fun hid own H s y sy P Q ho ry hf k => by
  obtain ⟨t, rfl, hf⟩ := ry.asS hf
  exact ⟨s, t, rfl, rfl, k _ _ H hf (Evl.Ex.refl H) (.int _)⟩⟩
/-- texts all of them -/
def allT : List PyData → Option (List Str)
  | [] => some []
  | .str i :: r => (allT r).map (i :: ·)
  | _ => none
def asTs (ds : List PyData) (P : List Str → Prop) : Prop := match allT ds with
  | some ns => P ns
  | none => False
theorem allT_map : ∀ ns : List Str, allT (ns.map PyData.str) = some ns
  | [] => rfl
  | n :: r => by rw [List.map_cons, allT, allT_map r]; rfl
theorem asTs_map {P : List Str → Prop} (ns : List Str) : asTs (ns.map PyData.str) P = P ns := by
  unfold asTs
  rw [allT_map]
theorem DdAll.texts {H : Hp} : ∀ {vs : List V} {ds : List PyData} {ns : List Str}, DdAll H vs ds → allT ds = some ns → vs = ns.map V.str
  | _, _, _, .nil, h => by cases h; rfl
  | _, d :: ds, _, .cons a t, h => by
    cases d with
    | str i =>
      rw [allT] at h
      cases q : allT ds with
      | none => rw [q] at h; cases h
      | some ms =>
        rw [q] at h
        cases h
        cases a
        rw [List.map_cons, ← t.texts q]
    | _ => cases h
def rJoinS (K : PySem.W.Frag) : V → List V → Hp → VK → Prop := fun x xs H Q => ∃ a p, ∃ ys : List Str, x = .str a ∧ xs = [.ref p] ∧ (SqL K H p (ys.map V.str) ∨ SqT K H p (ys.map V.str)) ∧
      (ys.map (·.length)).sum + ys.length * a.length ≤ 16777216 ∧ Q (.str (Txt.join a ys)) H
theorem pe_joinQ {X : Cx} {K : PySem.W.Frag} {o e : Expr} {to te : TE} {apos pos : Pos} (hK : X.K = K) (ho : PE X o to) (he : PE X e te) (hs : starEach [e] X.env = [(false, eval e X.env)] := by rfl) (hbase : attributeBase o "join" X.env (eval o X.env) = eval o X.env := by rfl) (hline : (apos.endLine == pos.line) = true := by rfl) :
    PE X (.Call (.Attribute o "join" apos) [e] [] pos) (tM1 (rJoinS K) to te) := by
  subst hK
  exact pe_join ho he hs hbase hline
def fJoin (s : Str) (y : SV) (P : SV → Prop) : Prop := asSeq y fun ds => asTs ds fun ys => (ys.map (·.length)).sum + ys.length * s.length ≤ 16777216 ∧ P (.d (.str (Txt.join s ys)))
instance dm_join {K : PySem.W.Frag} : DM (rJoinS K) fJoin := ⟨fun hid own H s y sy P Q ho ry hf k => by
  unfold fJoin asSeq at hf
  split at hf
  · obtain ⟨a, vs, rfl, h, t⟩ := ry.list
    unfold asTs at hf
    split at hf
    · rename_i ys hy
      rw [t.texts hy] at h
      exact ⟨s, a, ys, rfl, rfl, .inl (SqL.of h), hf.1, k _ _ H hf.2 (Evl.Ex.refl H) (.str _)⟩
    · exact hf.elim
  · obtain ⟨a, vs, rfl, h, t⟩ := ry.tuple
    unfold asTs at hf
    split at hf
    · rename_i ys hy
      rw [t.texts hy] at h
      exact ⟨s, a, ys, rfl, rfl, .inr (h.ex hide_ex).sq, hf.1, k _ _ H hf.2 (Evl.Ex.refl H) (.str _)⟩
    · exact hf.elim
  · exact hf.elim⟩
/-! a text backwards: some text of its signs -/
def tRevS (te : TE) : TE := fun σ H Q => te σ H fun x H1 => ∃ z : Str, x = .str z ∧ z.length ≤ 100000 ∧ ∀ y : Str, y.length ≤ z.length → (∀ c ∈ y.cps.toList, c ∈ z.cps.toList) → Q (.str y) H1
theorem pe_revS {X : Cx} {e : Expr} {te : TE} {k : Nat} {p1 p2 p3 pos : Pos} (he : PE X e te) : PE X (.Subscript e (.Slice none none (some (.UnaryOp .USub (.Constant (.int 1) k p1) p2)) p3) pos) (tRevS te) := by
  refine ⟨fun pins s σ H Q I h => Subscript_ (thn (he.run pins s σ H _ I h) ?_)⟩
  rintro v s1 ⟨x, H1, I1, r1, z, rfl, hz, q⟩
  obtain ⟨t, rfl⟩ := r1
  have step : PO X (some (.UnaryOp .USub (.Constant (.int 1) k p1) p2)) (tPart (tUn (rU fun i => .int (-i)) (tC (.int 1)))) := po_some (pe_un un_neg pe_int)
  refine wpAny_Slice (thn (po_none.run pins s1 σ H1 (fun o G => o = none ∧ G = H1) I1 ⟨rfl, rfl⟩) ?_)
  rintro vl s2 ⟨l, H2, I2, pl, rfl, rfl⟩
  refine thn (po_none.run pins s2 σ H2 (fun o G => o = none ∧ G = H2) I2 ⟨rfl, rfl⟩) ?_
  rintro vu s3 ⟨u, H3, I3, pu, rfl, rfl⟩
  refine thn (step.run pins s3 σ H3 (fun o G => o = some (-1) ∧ G = H3) I3 ⟨1, rfl, -1, rfl, rfl, rfl⟩) ?_
  rintro vs s4 ⟨o, H4, I4, ps, rfl, rfl⟩
  have I5 : Inv X pins σ H4 { s4 with heap := s4.heap.push { cls := .type "slice", data := .fields #[vl, vu, vs] } } := I4.kept (t' := s4.toks) fun b ob q => Heap.get?_push_of_some _ q
  obtain ⟨l0, rfl, e1⟩ := IsPart.raw pl
  obtain ⟨u0, rfl, e2⟩ := IsPart.raw pu
  obtain ⟨st0, rfl, e3⟩ := IsPart.raw ps
  obtain ⟨sn, st⟩ : ∃ q : Tok, st0 = some (-1, q) := by
    cases st0 with
    | none => cases e3
    | some p =>
      obtain ⟨a, q⟩ := p
      simp at e3
      subst e3
      exact ⟨q, rfl⟩
  subst st
  have le := Txt.sliceBy_le z l0 u0 (-1, sn) (show (-1 : Int) ≠ 0 by decide)
  refine tail_any (ops := [.str z t, .ref s4.heap.objs.size]) (typeIs_str _ _ _) (F.slot_str_getitem.lookup) ?_ (by with_unfolding_all rfl)
  refine wpAny_getItem_str_slice (l := l0) (u := u0) (st := some (-1, sn)) ⟨_, Heap.get?_push_size _ rfl, rfl, rfl⟩ (show ((-1 : Int) == 0) = false by decide) ?_
  unfold Txt.sliceBy at le
  unfold sliceMade
  by_cases c : ((Option.map (fun x => x.fst) (some ((-1 : Int), sn))).getD 1 == 1 && (slicePicked z l0 u0 (some (-1, sn))).length == z.length) = true
  · rw [if_pos c]
    exact ⟨.str z, H4, I5, ⟨t, rfl⟩, q z (Nat.le_refl _) fun c hc => hc⟩
  · rw [if_neg c] at le ⊢
    refine ⟨Nat.le_trans le (Evl.sz_of hz), .str _, H4, I5.tok _, ⟨_, rfl⟩, q _ le fun c hc => ?_⟩
    have hc2 : c ∈ (slicePicked z l0 u0 (some (-1, sn))).filterMap (z.cps[·]?) := by simpa using hc
    obtain ⟨i, _, hi⟩ := List.mem_filterMap.mp hc2
    exact List.mem_of_getElem? (i := i) (by rw [Array.getElem?_toList]; exact hi)
def wRevS (a : WE) : WE := fun ρ P => a ρ fun x => asS x fun z => z.length ≤ 100000 ∧ ∀ y : Str, y.length ≤ z.length → (∀ c ∈ y.cps.toList, c ∈ z.cps.toList) → P (.d (.str y))
instance le_revS {t : TE} {a : WE} [ha : LB t a] : LE (tRevS t) (wRevS a) := ⟨fun hs hid own H σ ρ P Q r hw k => by
  refine ha.go hs hid own H σ ρ _ _ r hw fun s v H1 p e1 q => ?_
  obtain ⟨z, rfl, p⟩ := q.asS p
  exact ⟨z, rfl, p.1, fun y h1 h2 => k _ _ H1 (p.2 y h1 h2) e1 (.str _)⟩⟩
/-! splitting -/
def rSplitS : V → List V → Hp → VK → Prop := fun x xs H Q => ∃ a b, x = .str a ∧ xs = [.str b] ∧ (b.length == 0) = false ∧ a.length + 2 ≤ sizeLine ∧ rNewStrs (Txt.split a b) H Q
theorem pe_splitQ {X : Cx} {o e : Expr} {to te : TE} {apos pos : Pos} (ho : PE X o to) (he : PE X e te) (hs : starEach [e] X.env = [(false, eval e X.env)] := by rfl) (hbase : attributeBase o "split" X.env (eval o X.env) = eval o X.env := by rfl) (hline : (apos.endLine == pos.line) = true := by rfl) :
    PE X (.Call (.Attribute o "split" apos) [e] [] pos) (tM1 rSplitS to te) := pe_split ho he hs hbase hline
theorem dd_texts (H : Hp) : ∀ ns : List Str, DdAll H (ns.map V.str) (ns.map PyData.str)
  | [] => .nil
  | n :: r => .cons (.str n) (dd_texts H r)
def fSplit (s : Str) (y : SV) (P : SV → Prop) : Prop := asS y fun t => t.length ≠ 0 ∧ s.length ≤ 100000 ∧ P (.d (.list ((Txt.split s t).map .str)))
instance dm_split : DM rSplitS fSplit := ⟨fun hid own H s y sy P Q ho ry hf k => by
  obtain ⟨t, rfl, h1, h2, h3⟩ := ry.asS hf
  exact ⟨s, t, rfl, rfl, by simpa using h1, Nat.le_trans (Nat.add_le_add_right h2 2) (by decide), new_lst ho (dd_texts _ _) h3 k⟩⟩
end Lr

namespace Lr
open PySem L2
theorem q_gown2_1 : gown2 (some (some (.own2 a dss))) P = (P a dss) := rfl
theorem q_asS_1 : asS (.d (.str z)) P = (P z) := rfl
theorem q_asS1_1 : asS1 ([.d (.str z)]) P = (P z) := rfl
end Lr

namespace Lr
open PySem L2
def getO2 (ρ : Ro) (i : Nat) (P : Addr → List (List PyData) → Prop) : Prop := gown2 ρ[i]? P
def dl1 (x : Option SV) : Option SV := if isLn x = true then none else x
def dropK (ρ : Ro) (P : Ro → Prop) : Prop := P (dropLn ρ)
def setAllK (ρ : Ro) (is : List Nat) (ss : List SV) (P : Ro → Prop) : Prop := P (setAll ρ is ss)
def freeK (ρ : Ro) (i : Nat) : Prop := freeAt ρ i = true
section
variable {ρ r : Ro} {i j l n k : Nat} {P : SV → Prop} {R : Ro → Prop} {Q : List PyData → Prop} {Q2 : Addr → List (List PyData) → Prop} {x : Option SV} {s : Option SV} {d : PyData} {m : Mo} {t : String} {a : Addr} {ds : List PyData} {dss : List (List PyData)} {E : PEnds} {e e2 : WE} {xp : PX} {is : List Nat} {y : SV} {ss : List SV}
theorem getB_l : getB (some (.ln i j ds) :: r) 0 P = P (.d (.list ds)) := rfl
theorem getO2_s : getO2 (x :: r) (n + 1) Q2 = getO2 r n Q2 := rfl
theorem getO2_w : getO2 (some (.own2 a dss) :: r) 0 Q2 = Q2 a dss := rfl
theorem dropK_n : dropK [] R = R [] := rfl
theorem dropK_c : dropK (x :: r) R = dropK r fun r' => R (dl1 x :: r') := rfl
theorem dl1_n : dl1 none = none := rfl
theorem dl1_d : dl1 (some (.d d)) = some (.d d) := rfl
theorem dl1_o : dl1 (some (.o m)) = some (.o m) := rfl
theorem dl1_t : dl1 (some (.ty t)) = some (.ty t) := rfl
theorem dl1_r : dl1 (some (.ref a)) = some (.ref a) := rfl
theorem dl1_w : dl1 (some (.own ds)) = some (.own ds) := rfl
theorem dl1_w2 : dl1 (some (.own2 a dss)) = some (.own2 a dss) := rfl
theorem dl1_l : dl1 (some (.ln i j ds)) = none := rfl
theorem setAllK_c : setAllK ρ (i :: is) (y :: ss) R = setK ρ i (some y) fun ρ' => setAllK ρ' is ss R := rfl
theorem setAllK_n : setAllK ρ [] [] R = R ρ := rfl
theorem freeK_s : freeK (x :: r) (n + 1) = freeK r n := rfl
theorem freeK_n : freeK (none :: r) 0 = True := by simp [freeK, freeAt]
theorem freeK_d : freeK (some (.d d) :: r) 0 = True := by simp [freeK, freeAt]
theorem k_ix2 : wIx2 i e ρ P = getO2 ρ i fun _ dss => e ρ fun y => asI y fun n => ∃ ds, L2.atI dss n = some ds ∧ P (.d (.list ds)) := rfl
theorem k_app2 : wApp2 i e e2 E ρ = getO2 ρ i fun p dss => e ρ fun y => asI y fun n => ∃ j ds, ixN dss.length n = some j ∧ dss[j]? = some ds ∧ ds.length < 100000 ∧ e2 ρ fun z => asD z fun d => setK ρ i (some (.own2 p (dss.set j (ds ++ [d])))) fun ρ' => dropK ρ' E.nx := rfl
theorem k_put2 {f : Ro → (List PyData → Prop) → Prop} : wPut2 i f e E ρ = f ρ fun ds => getO2 ρ i fun p dss => e ρ fun n => asI n fun m => ∃ j, ixN dss.length m = some j ∧ setK ρ i (some (.own2 p (dss.set j ds))) fun ρ' => dropK ρ' E.nx := rfl
theorem k_forO {b : WS} : wForO i k b E ρ = getO2 ρ i fun p dss => wFor2 i k b p dss.length dss.length 0 E ρ := rfl
theorem k_parN {w : Ro → (List SV → Prop) → Prop} : wParN n is w E ρ = (is.length = n ∧ n ≤ 1000 ∧ dropK ρ fun ρ' => w ρ' fun ss => setAllK ρ' is ss E.nx) := rfl
theorem k_wpF {f : Ro → (List PyData → Prop) → Prop} {b : Ro → (List SV → Prop) → Prop} {T : List SV → Prop} : wpF i is f b ρ T = (freeK ρ i ∧ i ∉ is ∧ f ρ fun x => b ρ fun xs => T (.own x :: xs)) := rfl
theorem k_wpF2 {f : Ro → (List (List PyData) → Prop) → Prop} {b : Ro → (List SV → Prop) → Prop} {T : List SV → Prop} : wpF2 i is f b ρ T = (freeK ρ i ∧ i ∉ is ∧ f ρ fun x => b ρ fun xs => ∀ p, T (.own2 p x :: xs)) := rfl
end
end Lr

namespace Lr
open PySem L2 PySem.Spec PyProof.Rows
/-! ### try: x = an expression of calls, except C as e: .. -/
class LES (te : WX → TE) (w : outParam (PX → WE)) : Prop where
  go : ∀ hs hid own H σ ρ xp (P : SV → Prop) (Q : VK) (W : WX), Rep hs hid own H σ ρ → XOk H (Oo hid own) (L2.WE W σ) xp → w xp ρ P → (∀ s v H', P s → Ex H H' → Re (Bh hid own H') v s → Q v H') → te W σ H Q
instance les_call {n : Nat} {R : RX} {t : TA} {a : WA} [ha : LA t a] : LES (fun W => tCallS (spX n R) (L2.WE W) t) (wCallX n R a) := ⟨fun hs hid own H σ ρ xp P Q W r hx hw k => by
  refine ha.go hs hid own H σ ρ _ _ r hw fun ss vs H1 p e1 q => ?_
  have r1 := r.mono e1
  exact ⟨Oo hid own, ss, P, xp, p.1, r1.occ, q, p.2, fun s v H' p e q => k s v H' p (e1.trans e) q, hx.mono e1 fun _ z => z⟩⟩
instance (priority := 100) les_le {t : TE} {w : WE} [h : LE t w] : LES (fun _ => t) (fun _ => w) := ⟨fun hs hid own H σ ρ xp P Q W r _ hw k => h.go hs hid own H σ ρ P Q r hw k⟩
instance (priority := 200) les_if {c : TT} {t u : WX → TE} {wc : WT} {a b : PX → WE} [hc : LT c wc] [ha : LES t a] [hb : LES u b] : LES (fun W => tIf c (t W) (u W)) (wIfXE wc a b) := ⟨fun hs hid own H σ ρ xp P Q W r x hw k => by
  refine hc.go hs hid own H σ ρ _ _ r hw fun c H' p e => ?_
  cases c with
  | true => exact iteT (ha.go hs hid own H' σ ρ xp P Q W (r.mono e) (x.mono e fun _ z => z) (by simpa using p) fun s v H2 pb e2 => k s v H2 pb (e.trans e2))
  | false => exact iteF (hb.go hs hid own H' σ ρ xp P Q W (r.mono e) (x.mono e fun _ z => z) (by simpa using p) fun s v H2 pb e2 => k s v H2 pb (e.trans e2))⟩
def tTryE (K : PySem.W.Frag) (c : Value) (i j : Nat) (te : WX → TE) (ts : Addr → Value → Option Addr → TS) (Wout : WX) : TS := fun D σ H => tAsg (te (wAs K c i ts Wout D)) (gName j) D σ H
theorem ps_tryE {X : Cx} {x n : Str} {c : Value} {i j : Nat} {body rest : List Stmt} {b0 : Stmt} {np pos p2 : Pos} {te : WX → TE} {ts : Addr → Value → Option Addr → TS} (own : X.stack = X.env :: X.outer ∧ X.env.frame = some X.env.locals ∧ X.N.Nodup) (at_ : X.N[i]? = some n ∧ X.env.kindOf n = some .local) (nm : Names X x c)
    (go : ∀ (W : WX) (pn : List (Addr × Obj)) (xe : Value → Shared → Prop), Takes (X.tr pn xe) W → PSs (X.tr pn xe) body (tAsg (te W) (gName j)))
    (su : ∀ (er : Addr) (oe : Obj) (cls : Value) (d : Option Addr) (pn : List (Addr × Obj)), Zc cls d oe → (∃ vs, oe.data = .fields vs) → PSs (X.suite er ((er, oe) :: pn)) (b0 :: rest) (ts er cls d)) :
    PS X (.Try body [.ExceptHandler (some (.Name x np)) (some n) (b0 :: rest) p2] [] [] pos) (tTryE X.K c i j te ts fun _ _ _ _ => False) :=
  ps_try_as (tb := fun W => tAsg (te W) (gName j)) own.1 own.2.1 own.2.2 at_.1 at_.2 nm takes0 (fun W pn xe tk _ => go W pn xe tk) su
def wTryE (K : PySem.W.Frag) (c : Value) (i j : Nat) (e : PX → WE) (ws : Addr → Value → Option Addr → WS) : WS := fun E ρ => e (fun x => PySem.W.exmOne K (.ref x.C) c = some true ∧ ∀ er d, ws er (.ref x.C) d { nx := fun ρ' => E.nx (ρ'.set i none), rt := E.rt, bk := fun ρ' => E.bk (ρ'.set i none), ct := fun ρ' => E.ct (ρ'.set i none) } (ρ.set i (some (.o (catM er d x))))) ρ fun s => E.nx (ρ.set j (some s))
instance ls_tryE {K : PySem.W.Frag} {c : Value} {i j : Nat} {te : WX → TE} {e : PX → WE} {ts : Addr → Value → Option Addr → TS} {ws : Addr → Value → Option Addr → WS} {Wout : WX} [he : LES te e] [hs : ∀ er cls d, LS (ts er cls d) (ws er cls d)] : LS (tTryE K c i j te ts Wout) (wTryE K c i j e ws) := ⟨fun hs0 hid D E own H σ ρ k r hw => by
  refine he.go hs0 hid own H σ ρ _ _ _ _ r (fun x d H' px e hx => ⟨true, px.1, fun _ er her => ?_, fun z => nomatch z⟩) hw fun s v H' p e q => k.nx own H' _ _ p ((r.mono e).put j q)
  have r2 := r.mono e
  exact (hs er (.ref x.C) d).go hs0 hid _ { nx := fun ρ' => E.nx (ρ'.set i none), rt := E.rt, bk := fun ρ' => E.bk (ρ'.set i none), ct := fun ρ' => E.ct (ρ'.set i none) } own H' _ _ ⟨fun own H σ ρ p r => k.nx own H _ _ p (r.gone i), fun own H σ ρ p r => k.bk own H _ _ p (r.gone i), fun own H σ ρ p r => k.ct own H _ _ p (r.gone i), k.rt⟩ (r2.put i (s := .o (catM er d x)) ⟨rfl, hx⟩) (px.2 er d)⟩
theorem k_tryE {K : PySem.W.Frag} {c : Value} {i j : Nat} {e : PX → WE} {ws : Addr → Value → Option Addr → WS} {E : PEnds} {ρ : Ro} : wTryE K c i j e ws E ρ = e (fun x => PySem.W.exmOne K (.ref x.C) c = some true ∧ ∀ er d, setK ρ i (some (.o (catM er d x))) fun ρ2 => ws er (.ref x.C) d { nx := fun ρ' => setK ρ' i none E.nx, rt := E.rt, bk := fun ρ' => setK ρ' i none E.bk, ct := fun ρ' => setK ρ' i none E.ct } ρ2) ρ fun s => setK ρ j (some s) E.nx := rfl
instance (priority := 200) lex_op {E : XK} {r : R2} {f : W2} {ta tb : TE} {wa : PX → WE} {wb : WE} [d : DO r f] [a : LEX E ta wa] [b : LB tb wb] : LEX E (tOp r ta tb) (wOpX f wa wb) := ⟨fun hs hid own H σ ρ xp P Q rp hx hw k => by
  refine a.go hs hid own H σ ρ xp _ _ rp hx hw fun sx x H1 hx1 e1 rx => ?_
  refine b.go hs hid own H1 σ ρ _ _ (rp.mono e1) hx1 fun sy y H2 hy e2 ry => ?_
  exact d.go hid own H2 x y sx sy P Q (fun p hp => ((rp.mono e1).mono e2).notO hp) (.inl (rx.mono (hide_mono e2))) ry hy fun s v H' p e q => k s v H' p ((e1.trans e2).trans e) q⟩
theorem asDs_app {P : List PyData → Prop} {ss : List SV} : ∀ ds : List PyData, asDs (ds.map SV.d ++ ss) P = asDs ss fun es => P (ds ++ es)
  | [] => rfl
  | d :: r => by rw [List.map_cons, List.cons_append, asDs_cons, asDs_app r]; rfl
/-! none of these classes ends an iterator -/
def nsAllB (K : PySem.W.Frag) (n : Nat) (cs : List Addr) : Bool := (List.range n).all fun i => PySem.W.subIn K (.ref (cs.getD i 0)) (.type "StopIteration") == some false
theorem nsAllB_ok {K : PySem.W.Frag} {n : Nat} {cs : List Addr} (h : nsAllB K n cs = true) (i : Nat) (hi : i < n) : nsB K (cs.getD i 0) := beq_iff_eq.mp (List.all_eq_true.mp h i (List.mem_range.mpr hi))
end Lr

namespace Lr
open PySem L2 PySem.Spec PyProof.Rows
/-! ### int(a text) -/
def rIntS : List V → Hp → VK → Prop := fun xs H Q => ∃ a n, xs = [.str a] ∧ PySem.intText? a = some n ∧ a.length ≤ 640 ∧ Q (.int n) H
theorem k_intS {X : Cx} : CallR X (.type "int") rIntS := call_int_str
def fIntS : WC := fun ss P => asS1 ss fun z => ∃ n, PySem.intText? z = some n ∧ z.length ≤ 640 ∧ P (.d (.int n))
instance dc_intS : DC rIntS fIntS := ⟨fun hid own H vs ss P Q ho q hf k => by
  unfold fIntS asS1 at hf
  split at hf
  · obtain ⟨v, rfl, r⟩ := rb1 q
    rw [r.str]
    obtain ⟨n, h1, h2, h3⟩ := hf
    exact ⟨_, n, rfl, h1, h2, k _ _ H h3 (Evl.Ex.refl H) (.int _)⟩
  · exact hf.elim⟩
/-! ### a text in a text -/
def rInT : R2 := fun x y H Q => ∃ i j, x = .str i ∧ y = .str j ∧ Q (.bl (!(Builtin.Str.occurrences j i 0 j.length 1).isEmpty)) H
theorem ko_inT {X : Cx} : OpR X (compareOp .In) rInT := op_in_str
def fInT : W2 := fun x y P => asS x fun i => asS y fun j => P (.d (.bool (!(Builtin.Str.occurrences j i 0 j.length 1).isEmpty)))
instance do_inT : DO rInT fInT := ⟨fun hid own H x y sx sy P Q ho rx ry hf k => by
  obtain ⟨i, rfl, hf⟩ := rx.asS hf
  obtain ⟨j, rfl, hf⟩ := ry.asS hf
  exact ⟨i, j, rfl, rfl, k _ _ H hf (Evl.Ex.refl H) (.bl _)⟩⟩
theorem one_in {x : Str} {c : Nat} : (!(Builtin.Str.occurrences x ⟨#[c]⟩ 0 x.length 1).isEmpty) = decide (c ∈ x.cps.toList) := by rw [empty_one, Bool.not_not]
/-! ### splitting by one sign -/
abbrev cps (z : Str) : List Nat := z.cps.toList
theorem cps_app (x y : Str) : cps (x ++ y) = cps x ++ cps y := Array.toList_append
theorem cps_inj {x y : Str} (h : cps x = cps y) : x = y := by
  cases x; cases y
  exact congrArg Str.mk (Array.toList_inj.mp h)
/-- signs, with s between -/
def joinL (s : Nat) : List (List Nat) → List Nat
  | [] => []
  | [x] => x
  | x :: y :: r => x ++ s :: joinL s (y :: r)
theorem join_cps (s : Nat) : ∀ l : List Str, cps (Str.join ⟨#[s]⟩ l) = joinL s (l.map cps)
  | [] => rfl
  | [x] => rfl
  | x :: y :: r => by
    show cps (x ++ ⟨#[s]⟩ ++ Str.join ⟨#[s]⟩ (y :: r)) = _
    rw [cps_app, cps_app, join_cps s (y :: r)]
    show _ = cps x ++ s :: joinL s ((y :: r).map cps)
    rw [List.append_assoc]
    rfl
theorem txt_join (s : Nat) (l : List Str) : cps (Txt.join ⟨#[s]⟩ l) = joinL s (l.map cps) := by
  show cps (Builtin.Str.glued ⟨#[s]⟩ l) = _
  rw [StrLaws.glued_eq_join, join_cps]
theorem join0_cps : ∀ l : List Str, cps (Str.join "" l) = (l.map cps).flatten
  | [] => rfl
  | [x] => by simp [Str.join]
  | x :: y :: r => by
    show cps (x ++ "" ++ Str.join "" (y :: r)) = _
    rw [cps_app, cps_app, join0_cps (y :: r), show cps ("" : Str) = [] from rfl]
    simp
theorem txt_join0 (l : List Str) : cps (Txt.join "" l) = (l.map cps).flatten := by
  show cps (Builtin.Str.glued "" l) = _
  rw [StrLaws.glued_eq_join, join0_cps]
theorem joinL_count (s : Nat) : ∀ {l : List (List Nat)}, l ≠ [] → (joinL s l).count s + 1 = (l.map (·.count s)).sum + l.length
  | [], h => absurd rfl h
  | [x], _ => by simp [joinL]
  | x :: y :: r, _ => by
    have ih := joinL_count s (l := y :: r) (by simp)
    show (x ++ s :: joinL s (y :: r)).count s + 1 = _
    rw [List.count_append, List.count_cons_self]
    simp only [List.map_cons, List.sum_cons, List.length_cons] at ih ⊢
    omega
/-- the first word ends at the first s -/
theorem joinL_inj (s : Nat) : ∀ {l m : List (List Nat)}, l ≠ [] → m ≠ [] → (∀ x ∈ l, s ∉ x) → (∀ x ∈ m, s ∉ x) → joinL s l = joinL s m → l = m := by
  have cut : ∀ {x : List Nat}, s ∉ x → ∀ r : List Nat, (x ++ s :: r).takeWhile (fun c => !(c == s)) = x ∧ (x ++ s :: r).dropWhile (fun c => !(c == s)) = s :: r := fun {x} hx r => by
    induction x with
    | nil => simp
    | cons a t ih =>
      have ne : a ≠ s := fun z => hx (by simp [z])
      obtain ⟨h1, h2⟩ := ih fun z => hx (List.mem_cons_of_mem _ z)
      simp [ne, h1, h2]
  have whole : ∀ {x : List Nat}, s ∉ x → x.takeWhile (fun c => !(c == s)) = x ∧ x.dropWhile (fun c => !(c == s)) = [] := fun {x} hx => by
    induction x with
    | nil => simp
    | cons a t ih =>
      have ne : a ≠ s := fun z => hx (by simp [z])
      obtain ⟨h1, h2⟩ := ih fun z => hx (List.mem_cons_of_mem _ z)
      simp [ne, h1, h2]
  intro l
  induction l with
  | nil => intro m h; exact absurd rfl h
  | cons x r ih =>
    intro m _ hm hl hM e
    cases m with
    | nil => exact absurd rfl hm
    | cons y t =>
      have hx := hl x (by simp)
      have hy := hM y (by simp)
      cases r with
      | nil =>
        cases t with
        | nil => exact congrArg (fun z => [z]) e
        | cons y2 t =>
          have e : x = y ++ s :: joinL s (y2 :: t) := e
          exact absurd (by rw [e]; simp) hx
      | cons x2 r =>
        cases t with
        | nil =>
          have e : x ++ s :: joinL s (x2 :: r) = y := e
          exact absurd (by rw [← e]; simp) hy
        | cons y2 t =>
          have e : x ++ s :: joinL s (x2 :: r) = y ++ s :: joinL s (y2 :: t) := e
          have c1 := cut hx (joinL s (x2 :: r))
          have c2 := cut hy (joinL s (y2 :: t))
          rw [e, c2.1] at c1
          rw [c2.2] at c1
          have e2 := (List.cons.inj c1.2).2
          have := ih (m := y2 :: t) (by simp) (by simp) (fun z hz => hl z (by simp [hz])) (fun z hz => hM z (by simp [hz])) e2.symm
          rw [this, c1.1]
theorem cnt_count' (c : Nat) : ∀ l : List Nat, PyProof.Rows.cnt c l = (l.count c : Int)
  | [] => rfl
  | n :: r => by
    rw [PyProof.Rows.cnt_cons, cnt_count' c r, List.count_cons]
    by_cases h : n = c
    · subst h
      simp
      omega
    · simp [h]
/-- the parts have no s, and with s between they are the text again -/
theorem split_spec (s : Nat) (hs : s < 256) (x : Str) : Txt.split x ⟨#[s]⟩ ≠ [] ∧ joinL s ((Txt.split x ⟨#[s]⟩).map cps) = cps x ∧ ∀ p ∈ Txt.split x ⟨#[s]⟩, s ∉ cps p := by
  have hj : joinL s ((Txt.split x ⟨#[s]⟩).map cps) = cps x := by
    rw [← join_cps, StrLaws.join_split]
  have hc := count_cnt x s
  rw [cnt_count'] at hc
  have hcount : (Txt.split x ⟨#[s]⟩).length = (cps x).count s + 1 := by
    have h0 : (Builtin.Str.occurrences x ⟨#[s]⟩ 0 x.length (x.length + 1)).length = (cps x).count s := by
      have h : ((Builtin.Str.occurrences x ⟨#[s]⟩ 0 x.length (x.length + 1)).length : Int) = ((cps x).count s : Int) := hc
      omega
    unfold Txt.split
    by_cases g : (decide (x.length < (⟨#[s]⟩ : Str).length) || decide (Builtin.Str.strKind x < Builtin.Str.strKind ⟨#[s]⟩)) = true
    · rw [if_pos g]
      have k1 : Builtin.Str.strKind ⟨#[s]⟩ = 1 := by simp [Builtin.Str.strKind, hs]
      have k2 : 1 ≤ Builtin.Str.strKind x := by unfold Builtin.Str.strKind; split <;> (try split) <;> omega
      rw [Bool.or_eq_true, decide_eq_true_eq, decide_eq_true_eq, k1] at g
      have hl : x.length < 1 := by
        rcases g with g | g
        · exact g
        · omega
      have : cps x = [] := List.length_eq_zero_iff.mp (by show x.cps.toList.length = 0; rw [Array.length_toList]; exact Nat.lt_one_iff.mp hl)
      rw [this]
      rfl
    · rw [if_neg g]
      by_cases e : (Builtin.Str.occurrences x ⟨#[s]⟩ 0 x.length (x.length + 1)).isEmpty = true
      · rw [if_pos e]
        rw [List.isEmpty_iff.mp e] at h0
        rw [← h0]
        rfl
      · rw [if_neg e, ← h0]
        unfold Builtin.Str.partsBetween
        simp
  have hne : Txt.split x ⟨#[s]⟩ ≠ [] := fun z => by rw [z] at hcount; simp at hcount
  refine ⟨hne, hj, fun p hp hm => ?_⟩
  have k := joinL_count s (l := (Txt.split x ⟨#[s]⟩).map cps) (by simpa using hne)
  rw [hj, List.length_map, hcount] at k
  have z : (((Txt.split x ⟨#[s]⟩).map cps).map (·.count s)).sum = 0 := by omega
  have zero : ∀ {l : List Nat}, l.sum = 0 → ∀ a ∈ l, a = 0 := fun {l} => by
    induction l with
    | nil => intro _ a h; cases h
    | cons b r ih =>
      intro h a ha
      rw [List.sum_cons] at h
      rcases List.mem_cons.mp ha with rfl | ha
      · omega
      · exact ih (by omega) a ha
  have := zero z ((cps p).count s) (List.mem_map.mpr ⟨cps p, List.mem_map.mpr ⟨p, hp, rfl⟩, rfl⟩)
  have pos := List.count_pos_iff.mpr hm
  omega
theorem split_join (s : Nat) (hs : s < 256) {l : List Str} (h0 : l ≠ []) (h : ∀ p ∈ l, s ∉ cps p) : Txt.split (Txt.join ⟨#[s]⟩ l) ⟨#[s]⟩ = l := by
  obtain ⟨a, b, c⟩ := split_spec s hs (Txt.join ⟨#[s]⟩ l)
  rw [txt_join] at b
  have e := joinL_inj s (l := (Txt.split (Txt.join ⟨#[s]⟩ l) ⟨#[s]⟩).map cps) (m := l.map cps) (by simpa using a) (by simpa using h0) (fun x hx => by
    obtain ⟨p, hp, rfl⟩ := List.mem_map.mp hx
    exact c p hp) (fun x hx => by
    obtain ⟨p, hp, rfl⟩ := List.mem_map.mp hx
    exact h p hp) b
  exact List.map_inj_right (fun x y h => cps_inj h) |>.mp e
end Lr

namespace Lr
open PySem L2 PySem.Spec PyProof.Rows
/-! ### xs.extend(e) -/
def exL (y : SV) (P : List PyData → Prop) : Prop := match y with
  | .d (.list es) => P es
  | _ => False
theorem q_exL {P : List PyData → Prop} {es : List PyData} : exL (.d (.list es)) P = P es := rfl
def wExt (i : Nat) (e : WE) : WS := fun E ρ => gown ρ[i]? fun ds => ds.length < 100000 ∧ e ρ fun y => exL y fun es => ds.length + es.length < 100000 ∧ E.nx (ρ.set i (some (.own (ds ++ es))))
theorem k_ext {i : Nat} {e : WE} {E : PEnds} {ρ : Ro} : wExt i e E ρ = getO ρ i fun ds => ds.length < 100000 ∧ e ρ fun y => exL y fun es => ds.length + es.length < 100000 ∧ setK ρ i (some (.own (ds ++ es))) E.nx := rfl
instance (priority := 2000) ls_ext {K : PySem.W.Frag} {i : Nat} {t : TE} {e : WE} [he : LE t e] : LS (tDrop (tBM K "list" rExtend (tVar i) (tCons t tNil))) (wExt i e) := ⟨fun hs hid D E own H σ ρ k r hw => by
  obtain ⟨ds0, a, vs, ⟨hlen, hw⟩, hds, h2, h1, h3, h4⟩ := gown_get r hw
  refine ⟨_, h1, .inl ⟨rfl, _, SqL.of h3⟩, he.go hs hid own H σ ρ _ _ r hw fun s y H1 p e1 q => ?_⟩
  unfold exL at p
  split at p
  · obtain ⟨b, ws, rfl, g1, g2⟩ := Rb.list (.inl q)
    refine ⟨a, b, vs, ws, rfl, rfl, e1 _ _ h3, g1, by rw [h4.len, g2.len]; exact Evl.sz_of (Nat.le_of_lt p.1), ?_⟩
    exact k.nx own _ _ _ p.2 ((r.mono e1).mut h2 h1 ((h4.mono (hide_mono e1)).app g2))
  · exact p.elim⟩
/-! ### a text as often as told -/
def rMulS : R2 := fun x y H Q => ∃ (z : Str) (n : Nat), x = .str z ∧ y = .int n ∧ z.length ≤ 1000 ∧ n ≤ 10000 ∧ Q (.str (Txt.mul z n)) H
theorem op_mulS {X : Cx} : OpR X (binaryOp .Mult) rMulS := by
  intro pins s σ H x y v u Q I rx ry h
  obtain ⟨z, n, rfl, rfl, hz, hn, q⟩ := h
  obtain ⟨t, rfl⟩ := rx
  obtain ⟨t2, rfl⟩ := ry
  have prod : z.length * n ≤ 10000000 := Nat.mul_le_mul hz hn
  refine PySem.SB.mul ⟨?_, fun h1 _ => ?_, fun _ _ => ?_⟩ fun t3 k => ⟨.str _, H, I.tok _, ⟨_, rfl⟩, q⟩
  · have a : ¬ ((n : Int) < -(2 ^ 63 : Int)) := by omega
    have b : ¬ ((n : Int) ≥ 2 ^ 63) := by omega
    rw [decide_eq_false a, decide_eq_false b]
    rfl
  · have hn1 : (1 : Int) ≤ n := by omega
    have : (1000 : Int) ≤ (2 ^ 63 - 1) / (n : Int) := by
      rw [Int.le_ediv_iff_mul_le (by omega)]
      omega
    omega
  · rw [Int.toNat_natCast]
    refine decide_eq_false ?_
    have : sizeLine = 16777216 := by decide
    omega
def fMulS : W2 := fun x y P => match x, y with
  | .d (.str z), .d (.int k) => 0 ≤ k ∧ k ≤ 10000 ∧ z.length ≤ 1000 ∧ P (.d (.str (Txt.mul z k)))
  | _, _ => False
theorem q_fMulS {z : Str} {k : Int} {P : SV → Prop} : fMulS (.d (.str z)) (.d (.int k)) P = (0 ≤ k ∧ k ≤ 10000 ∧ z.length ≤ 1000 ∧ P (.d (.str (Txt.mul z k)))) := rfl
instance do_mulS : DO rMulS fMulS := ⟨fun hid own H x y sx sy P Q ho rx ry hf k => by
  unfold fMulS at hf
  split at hf
  · rename_i z i
    rw [rx.str, ry.int]
    refine ⟨z, i.toNat, rfl, by congr 1; omega, hf.2.2.1, by omega, ?_⟩
    have e : ((i.toNat : Nat) : Int) = i := by omega
    rw [e]
    exact k _ _ H hf.2.2.2 (Evl.Ex.refl H) (.str _)
  · exact hf.elim⟩
/-! ### a tuple once -/
theorem tuple_mul1 (l : Addr) (items : Array Value) (n : Nat) (dd : Option Addr) (sl : Array (Option Value)) (u : Tok) :
    Meets (Builtin.«tuple.__mul__» ⟨[.ref l, .int 1 u], []⟩) (fun _ R s => s.heap.get? l = some { cls := .type "tuple", dict := dd, data := .seq items n, slots := sl } ∧ R (.ok (.ret (Value.ref l))) s) :=
  .of_wp fun prog w A R s h => by
    obtain ⟨hp, g, d, tk, os⟩ := s
    obtain ⟨hl, h⟩ := h
    have f1 := AutoSeq1.idx_int
    wp_walk using wpAny_loadPart' hl
    exact ⟨_, rfl, h⟩
def rRep1 (K : PySem.W.Frag) : R2 := fun x y H Q => ∃ l xs, x = .ref l ∧ y = .int 1 ∧ SqT K H l xs ∧ Q (.ref l) H
theorem op_rep1 {X : Cx} {K : PySem.W.Frag} (hK : X.K = K) : OpR X (binaryOp .Mult) (rRep1 K) := by
  subst hK
  rintro pn s0 st G _ _ v u Q J rx ry ⟨l, xs, rfl, rfl, tx, want⟩
  cases rx
  obtain ⟨t, rfl⟩ := ry
  obtain ⟨us, rel, ⟨⟨cls, dd, data, sl⟩, ho, hcl, n, hdt⟩, _⟩ := J.tuple tx
  simp only at hcl hdt
  subst hcl hdt
  refine wpAny_binaryOp_repeat_ref (T := "tuple") (U := "int") (by decide) ⟨_, ho, rfl⟩ (fun s' => typeIs_int s' 1 t) noFill_tuple_mul F.fills_int_mul F.slot_int_rmul repeat_tuple F.slot_int_index.lookup ?_
  refine call_meets F.slot_int_rmul (typeIs_int s0 1 t) F.entry_int_rmul (F.args_int_rmul_2 _ _) (int_rmul_tuple 1 t l us.toArray n dd sl) ⟨ho, rfl, ⟨_, ho, rfl⟩, ?_⟩
  refine call_meets F.slot_tuple_mul ⟨_, ho, rfl⟩ F.entry_tuple_mul (F.args_tuple_mul_2 _ _) (tuple_mul1 l us.toArray n dd sl t) ⟨ho, ?_⟩
  exact ⟨.ref l, G, J, rfl, want⟩
def rMulT (K : PySem.W.Frag) : R2 := fun x y H Q => rRep1 K x y H Q ∨ rRepF K x y H Q
theorem ko_mulT {X : Cx} {K : PySem.W.Frag} (hK : X.K = K) : OpR X (binaryOp .Mult) (rMulT K) := by
  intro pn s0 st G x y v u Q J rx ry h
  rcases h with h | h
  · exact op_rep1 hK pn s0 st G x y v u Q J rx ry h
  · exact op_repF hK pn s0 st G x y v u Q J rx ry h
def fMulT : W2 := fun x y P => match x, y with
  | .d (.tuple a), .d (.int k) => a ≠ [] ∧ 1 ≤ k ∧ k ≤ 1000 ∧ a.length ≤ 1000 ∧ P (.d (.tuple (List.replicate k.toNat a).flatten))
  | _, _ => False
theorem q_fMulT {a : List PyData} {k : Int} {P : SV → Prop} : fMulT (.d (.tuple a)) (.d (.int k)) P = (a ≠ [] ∧ 1 ≤ k ∧ k ≤ 1000 ∧ a.length ≤ 1000 ∧ P (.d (.tuple (List.replicate k.toNat a).flatten))) := rfl
instance do_mulT {K : PySem.W.Frag} : DO (rMulT K) fMulT := ⟨fun hid own H x y sx sy P Q ho rx ry hf k => by
  unfold fMulT at hf
  split at hf
  · rename_i ta ti
    obtain ⟨a, vs, rfl, h1, t1⟩ := rx.tuple
    rw [ry.int]
    obtain ⟨n0, h1k, h2k, h3k, kk⟩ := hf
    by_cases e : ti = 1
    · subst e
      have ee : (List.replicate (1 : Int).toNat ta).flatten = ta := by simp [List.replicate]
      rw [ee] at kk
      exact .inl ⟨a, vs, rfl, rfl, (h1.ex hide_ex).sq, k _ _ H kk (Evl.Ex.refl H) (.tup h1 t1)⟩
    · refine .inr ⟨a, _, vs, rfl, rfl, (h1.ex hide_ex).sq, fun z => n0 ?_, by omega, h2k, by rw [t1.len]; exact h3k, new_tup ho (t1.rep _) kk k⟩
      subst z
      cases t1
      rfl
  · exact hf.elim⟩
end Lr

namespace Lr
open PySem L2 PySem.Spec PyProof.Rows
/-! ### sorted(text), as long as it may be -/
def chT' (c : Nat) : Str := ⟨#[c]⟩
section
variable {prog : Program} {w : World} {A : Around} {E : Value → Shared → Prop} {s : Shared}
theorem strs_signs {x : Str} : ∀ (vs : List Value) (cs : List Nat), vs.length = cs.length → (∀ (j : Nat) (v : Value), vs[j]? = some v → ∃ (c : Nat) (u : Tok), cs[j]? = some c ∧ v = Value.str ⟨#[c]⟩ u) → StrsAre vs (cs.map chT')
  | [], [], _, _ => .nil
  | v :: vs, c :: cs, hl, h => by
    obtain ⟨c', u, h1, rfl⟩ := h 0 v rfl
    cases h1
    exact .cons _ _ (strs_signs (x := x) vs cs (by simpa using hl) fun j v hj => h (j + 1) v hj)
  | [], _ :: _, hl, _ => by cases hl
  | _ :: _, [], hl, _ => by cases hl
theorem sorted_txt {x : Str} {t : Tok} {Q : Value → Shared → Prop} (hh : A.handled = none) (hn : x.cps.size ≤ sizeLine)
    (h : ∀ (h' : Heap) (tk : Nat) (vs : List Value) (out : Array Value) (ss' : List Str), (∀ b o, s.heap.get? b = some o → h'.get? b = some o) → StrsAre out.toList ss' → ss'.Perm (x.cps.toList.map chT') → sortedS ss' = true →
      Q (.ref h'.objs.size) { s with heap := sortedHeap (h'.push (seqObj "list" vs.toArray 0)) h'.objs.size vs out, toks := tk }) :
    wpAny (model prog w) A (call (.builtin "sorted") [.str x t]) Q E s := by
  refine Calls.call_function_entry kind_sorted plain_sorted entry_sorted (args_sorted1 _) ?_
  unfold Builtin.«sorted»
  refine wpAny_bind (m := checkCount "sorted" 1 1 _) (wpAny_pure ?_)
  refine wpAny_bind (wpAny_collect_str (A := A.in1) (show A.in1.handled = none from hh) x t (fun s' acc keep g1 g2 g3 it => ?_) hn)
  obtain ⟨h', g', d', tk, os'⟩ := s'
  simp only at g1 g2 g3
  subst g1 g2 g3
  have hS : StrsAre acc.toList (x.cps.toList.map chT') := strs_signs (x := x) acc.toList x.cps.toList (by simpa using it.1) fun j v hj => by
    obtain ⟨c, u, h1, h2⟩ := it.2 j v (by simpa using hj)
    exact ⟨c, u, by simpa using h1, h2⟩
  have hL : acc.toList.length ≤ sizeLine := by rw [Array.length_toList, it.1]; exact hn
  refine wpAny_bind (wpAny_newList ?_)
  have hoL : (h'.push (seqObj "list" acc.toList.toArray 0)).get? h'.objs.size = some (seqObj "list" acc.toList.toArray 0) := Heap.get?_push_size _ rfl
  refine wpAny_bind (wpAny_holding (wpAny_call_entry slot_list_sort ⟨_, hoL, rfl⟩ entry_list_sort (list_sort_treeKAny strKind_oneLt hoL hS.keysOf (fun v₁ v₂ rest e => keyKind_strs (by rw [← e]; exact hS)) hL fun st' a1 a2 => ⟨_, rfl, ?_⟩) (args_list_sort _)))
  obtain ⟨ss', q1, q2, q3⟩ := sorted_out_str hS a1 a2
  refine wpAny_pure ⟨_, rfl, ?_⟩
  exact h h' tk acc.toList _ ss' keep q1 q2 q3
end
def rSortTx : List V → Hp → VK → Prop := fun xs H Q => ∃ z : Str, xs = [.str z] ∧ z.length ≤ 100000 ∧ ∀ (ys : List Str) (p : Addr), ys.Perm (z.cps.toList.map chT') → sortedS ys = true → H p = none → Q (.ref p) (upd H p (.lst (ys.map V.str)))
theorem k_sortTx {X : Cx} (hc : X.calm = true) : CallR X (.builtin "sorted") rSortTx := by
  intro pins s σ H xs us Q I r h
  obtain ⟨z, rfl, hz, q⟩ := h
  obtain ⟨u, rfl, ru⟩ := r.one
  obtain ⟨t, rfl⟩ := ru
  have zl : z.cps.size ≤ 100000 := hz
  refine sorted_txt (I.ok.hd hc) (by rw [sizeLine_eq]; omega) fun h' tk vs out ss' keep q1 q2 q3 => ?_
  have I' : Inv X pins σ H { s with heap := h', toks := tk } := I.kept keep
  obtain ⟨ep, he'⟩ := sortedHeap_at (h := h'.push (seqObj "list" vs.toArray 0)) (a := h'.objs.size) (vs := vs) (out := out) (n := 0) (Heap.get?_push_size _ rfl)
  have hlen : (ss'.map V.str).length ≤ sizeLine := by rw [List.length_map, q2.length_eq, List.length_map, Array.length_toList, sizeLine_eq]; omega
  exact ⟨.ref _, upd H h'.objs.size (.lst (ss'.map V.str)), I'.laid (t' := tk) (fun b o hb => by
    have hlt := Heap.lt_size hb
    rw [sortedHeap_old (Nat.ne_of_lt hlt) (by rw [size_push']; exact Nat.lt_succ_of_lt hlt), Heap.get?_push_ne _ _ _ (Nat.ne_of_lt hlt)]
    exact hb) (Nat.le_refl _) ⟨hlen, out.toList, ep, vals_of_strs q1, he'⟩, rfl, q ss' _ q2 q3 (I'.hok.fresh (Nat.le_refl _))⟩
def fSortT : WC := fun ss P => match ss with
  | [.d (.str z)] => z.length ≤ 100000 ∧ ∀ ys : List Str, ys.Perm (z.cps.toList.map chT') → sortedS ys = true → P (.d (.list (ys.map .str)))
  | _ => False
theorem q_fSortT {z : Str} {P : SV → Prop} : fSortT [.d (.str z)] P = (z.length ≤ 100000 ∧ ∀ ys : List Str, ys.Perm (z.cps.toList.map chT') → sortedS ys = true → P (.d (.list (ys.map .str)))) := rfl
theorem dd_strs (H : Hp) : ∀ ys : List Str, DdAll H (ys.map V.str) (ys.map PyData.str)
  | [] => .nil
  | y :: r => .cons (.str y) (dd_strs H r)
instance dc_sortT : DC rSortTx fSortT := ⟨fun hid own H vs ss P Q ho q hf k => by
  unfold fSortT at hf
  split at hf
  · obtain ⟨v, rfl, rv⟩ := rb1 q
    rw [rv.str]
    exact ⟨_, rfl, hf.1, fun ys p hp hs hn => new_lst ho (dd_strs _ ys) (hf.2 ys hp hs) k p hn⟩
  · exact hf.elim⟩
/-! ### x not in text -/
def rNinT : R2 := fun x y H Q => ∃ i j, x = .str i ∧ y = .str j ∧ Q (.bl (!(!(Builtin.Str.occurrences j i 0 j.length 1).isEmpty))) H
theorem ko_ninT {X : Cx} : OpR X (compareOp .NotIn) rNinT := op_notin_str
def fNinT : W2 := fun x y P => asS x fun i => asS y fun j => P (.d (.bool (!(!(Builtin.Str.occurrences j i 0 j.length 1).isEmpty))))
instance do_ninT : DO rNinT fNinT := ⟨fun hid own H x y sx sy P Q ho rx ry hf k => by
  obtain ⟨i, rfl, hf⟩ := rx.asS hf
  obtain ⟨j, rfl, hf⟩ := ry.asS hf
  exact ⟨i, j, rfl, rfl, k _ _ H hf (Evl.Ex.refl H) (.bl _)⟩⟩
/-! ### str(x), of a whole number or of a text -/
def rStr2 : List V → Hp → VK → Prop := fun xs H Q => rStrI xs H Q ∨ ∃ z, xs = [.str z] ∧ Q (.str z) H
theorem k_str2 {X : Cx} : CallR X (.type "str") rStr2 := by
  intro pins s σ H xs us Q I r h
  rcases h with h | ⟨z, rfl, q⟩
  · exact k_strX pins s σ H xs us Q I r h
  · obtain ⟨u, rfl, t, rfl⟩ := vals1 r
    exact PySem.P.str_of_str ⟨.str z, H, I, ⟨_, rfl⟩, q⟩
def fStr2 : WC := fun ss P => match ss with
  | [.d (.int i)] => fStr [.d (.int i)] P
  | [.d (.str z)] => P (.d (.str z))
  | _ => False
theorem q_fStr2_1 {i : Int} {P : SV → Prop} : fStr2 [.d (.int i)] P = fStr [.d (.int i)] P := rfl
theorem q_fStr2_2 {z : Str} {P : SV → Prop} : fStr2 [.d (.str z)] P = P (.d (.str z)) := rfl
instance dc_str2 : DC rStr2 fStr2 := ⟨fun hid own H vs ss P Q ho q hf k => by
  unfold fStr2 at hf
  split at hf
  · exact .inl (dc_str.go hid own H vs _ P Q ho q hf k)
  · obtain ⟨v, rfl, rv⟩ := rb1 q
    rw [rv.str]
    exact .inr ⟨_, rfl, k _ _ H hf (Evl.Ex.refl H) (.str _)⟩
  · exact hf.elim⟩
end Lr

namespace Lr
open PySem L2 PySem.Spec PyProof.Rows
/-! ### own specials of instances -/
section
variable {X : Cx} {CX : CXT} {n : Nat} {C g : Addr} {sp : Sp} {E : XK}
theorem ins_at {pins : List (Addr × Obj)} {σ : L2.St} {H : Hp} {s : Shared} {a dx : Addr} {fs : List (Str × V)} (I : Inv X pins σ H s) (ha : H a = some (.ins C dx fs)) : ∃ ox od, PySem.W.InstAt s.heap a ox C od ∧ ox.data = .plain := by
  obtain ⟨mA, J, _⟩ := ins_get I.hok ha
  have hd := J.1
  obtain ⟨od, J, _⟩ := J.look
  exact ⟨_, _, J, rfl⟩
/-- x in y, y an instance whose class has its own __contains__ -/
def rInI (C : Addr) (sp : Sp) (E : XK) : R2 := fun x y H Q => ∃ a dx fs, y = .ref a ∧ H a = some (.ins C dx fs) ∧ sp [.ref a, x] H (fun z H' => ∃ b, z = .bl b ∧ Q (.bl b) H') E
theorem op_inI (hs : PySem.W.findIn X.K (.ref C) "__contains__" = some (some (.ref g))) (hf : PySem.W.isFn X.K (.ref g) = true) (F : FnR X.prog X.w X.K X.mg X.base CX n g sp)
    (hr : Room n X.A) (hx : Passes CX X E) : OpR X (compareOp .In) (rInI C sp E) := by
  intro pins s σ H x y v u Q I rx ry h
  obtain ⟨a, dx, fs, rfl, ha, q⟩ := h
  cases (show u = Value.ref a from ry)
  obtain ⟨ox, od, J, _⟩ := ins_at I ha
  obtain ⟨m, hF⟩ := I.fr
  refine PySem.W.in_K hF I.ok.mod.kin J hs hf ?_
  refine wpAny_mono (wpAny_call (run_fnR (us := [.ref a, v]) (vs := [.ref a, x]) F hr hx I (.cons rfl (.cons rx .nil)) q)) (fun z s' hz => ?_) fun _ _ x => x
  obtain ⟨z', H', I', rz, b, rfl, qz⟩ := hz
  cases (show z = Value.bool b from rz)
  exact wpAny_truthy_bool ⟨.bl b, H', I', rfl, qz⟩
/-- y[x], y an instance whose class has its own __getitem__ -/
def rIxI (C : Addr) (sp : Sp) (E : XK) : R2 := fun y x H Q => ∃ a dx fs, y = .ref a ∧ H a = some (.ins C dx fs) ∧ sp [.ref a, x] H Q E
theorem pe_ixI {a b : Expr} {ta tb : TE} {pos : Pos} (hs : PySem.W.findIn X.K (.ref C) "__getitem__" = some (some (.ref g))) (hf : PySem.W.isFn X.K (.ref g) = true) (hfn : PySem.W.fnIn X.K g = true) (F : FnR X.prog X.w X.K X.mg X.base CX n g sp)
    (hr : Room (n + 1) X.A) (hx : Passes CX X E) (ha : PE X a ta) (hb : PE X b tb) (hsl : ∀ o i, subscripted b true o i = runValue (.builtin "lifetime.subscript" ⟨[o, i], []⟩)) : PE X (.Subscript a b pos) (tOp (rIxI C sp E) ta tb) := by
  refine ⟨fun pins s σ H Q I h => ?_⟩
  refine Subscript_ (binT ha hb I h fun v u s2 x y H2 I2 rx ry q => ?_)
  obtain ⟨a, dx, fs, rfl, ha, q⟩ := q
  cases (show v = Value.ref a from rx)
  obtain ⟨ox, od, J, _⟩ := ins_at I2 ha
  obtain ⟨m, hF⟩ := I2.fr
  refine PySem.W.sub_K hF I2.ok.mod.kin J hs hfn hf ?_ (hsl _ _)
  exact wpAny_call (SlX.run_at (us := [.ref a, u]) (ws := [.ref a, y]) F (Room.in1 hr) I2.env0.in1 hx I2 (.cons rfl (.cons ry .nil)) q)
/-- x == y, x an instance whose class has its own __eq__; y of a class or type that does not come first -/
def rEqI (C : Addr) (sp : Sp) (E : XK) (K : PySem.W.Frag) : R2 := fun x y H Q => ∃ a dx fs b, x = .ref a ∧ y = .ref b ∧ H a = some (.ins C dx fs) ∧ ((∃ dy gs, H b = some (.ins C dy gs)) ∨ (∃ ys, Ti H b ys)) ∧ sp [x, y] H Q E
theorem op_eqI (hs : PySem.W.findIn X.K (.ref C) "__eq__" = some (some (.ref g))) (hf : PySem.W.isFn X.K (.ref g) = true) (hn : PySem.W.notFirst X.K C (.type "tuple") = true) (F : FnR X.prog X.w X.K X.mg X.base CX n g sp)
    (hr : Room n X.A) (hx : Passes CX X E) : OpR X (compareOp .Eq) (rEqI C sp E X.K) := by
  intro pins s σ H x y v u Q I rx ry h
  obtain ⟨a, dx, fs, b, rfl, rfl, ha, hb, q⟩ := h
  cases (show v = Value.ref a from rx)
  cases (show u = Value.ref b from ry)
  obtain ⟨ox, od, J, _⟩ := ins_at I ha
  obtain ⟨m, hF⟩ := I.fr
  have fin : ∀ tb, PySem.W.Looks (model X.prog X.w) s.heap (typeOf (.ref b)) tb → PySem.W.notFirst X.K C tb = true → wpAny (model X.prog X.w) X.A (richCompare .Eq (.ref a) (.ref b)) (EP X pins σ Q) X.xe s := fun tb ht hn => by
    refine PySem.W.cmp_K (op := .Eq) (tb := tb) hr.units0 hF I.ok.mod.kin J ht hn hs hf ?_
    refine wpAny_mono (wpAny_call (run_fnR (us := [.ref a, .ref b]) (vs := [.ref a, .ref b]) F hr hx I (.cons rfl (.cons rfl .nil)) q)) (fun w s' z => ?_) fun _ _ x => x
    obtain ⟨z', H', I', rz, qz⟩ := z
    exact SlX.cmpback rz ⟨z', H', I', rz, qz⟩
  show wpAny _ _ (richCompare .Eq (.ref a) (.ref b)) _ _ s
  rcases hb with ⟨dy, gs, hb⟩ | ⟨ys, hb⟩
  · obtain ⟨oy, od', J', _⟩ := ins_at I hb
    exact fin (.ref C) J'.type (by simp [PySem.W.notFirst])
  · obtain ⟨us, rel, ⟨⟨cls, dd, data, sl⟩, ho, hcl, n, hdt⟩, _⟩ := I.tuple hb.sq
    simp only at hcl hdt
    subst hcl hdt
    exact fin (.type "tuple") ((PySem.W.Looks.ld ho).andThen .now) hn
section
variable {M : Model} {A : Around} {Er : Value → Shared → Prop} {s : Shared} {x : Addr} {pos : Pos} {env : Env} {Q : Value → Shared → Prop}
theorem callWithI {e : Expr} {rest : List Expr} (h : wpAny M A (spliced (backTo pos (starEach (e :: rest) env))) (fun vs s₁ => (∃ ox C od, PySem.W.InstAt s₁.heap x ox C od ∧ ox.data = .plain) ∧ wpAny M A (call (.ref x) vs) Q Er s₁) Er s)
    (he : starEach (e :: rest) env = (false, eval e env) :: starEach rest env) (hplain : (backTo pos (starEach rest env)).any (·.1) = false) : wpAny M A (callWith pos (.ref x) [] (backTo pos (starEach (e :: rest) env)) []) Q Er s := by
  rw [he] at h ⊢
  have hp : (((backTo pos ((false, eval e env) :: starEach rest env)).any (·.1)) || (([] : List (Option Str × Sem Value)).any (·.1.isNone))) = false := by
    show ((false || (backTo pos (starEach rest env)).any (·.1)) || false) = false
    rw [hplain]
    rfl
  unfold callWith
  refine wpAny_bind (wpAny_holding (wpAny_mono (PySem.Calls.evalArgs_plain (Q := fun a s₁ => (∃ ox C od, PySem.W.InstAt s₁.heap x ox C od ∧ ox.data = .plain) ∧ wpAny M A (call (.ref x) a.pos a.kw) Q Er s₁) h) (fun a s₁ h₁ => wpAny_bind (wpAny_standAt ?_)) fun _ _ y => y))
  obtain ⟨⟨ox, C, od, J, hd⟩, h₁⟩ := h₁
  simp only [hp]
  refine wpAny_bind ((PySem.W.kco_keeper J hd).here ?_)
  exact wpAny_bind (wpAny_mono (wpAny_operateT h₁) (fun r s₂ hr => wpAny_bind (wpAny_holding (wpAny_point (wpAny_pure hr)))) fun _ _ y => y)
end
/-- x(..), x a local name that holds an instance whose class has its own __call__ -/
def tCallI (i : Nat) (C : Addr) (sp : Sp) (E : XK) (t : TA) : TE := fun σ H Q => ∃ a dx fs, σ[i]? = some (some (.ref a)) ∧ H a = some (.ins C dx fs) ∧ t σ H fun vs H1 => (∃ dy gs, H1 a = some (.ins C dy gs)) ∧ sp (.ref a :: vs) H1 Q E
theorem pe_callI {i : Nat} {x : Str} {p pos : Pos} {e : Expr} {es : List Expr} {t : TA} (hs : PySem.W.findIn X.K (.ref C) "__call__" = some (some (.ref g))) (hf : PySem.W.isFn X.K (.ref g) = true) (hfn : PySem.W.fnIn X.K g = true) (F : FnR X.prog X.w X.K X.mg X.base CX n g sp)
    (hr : Room n X.A) (hx : Passes CX X E) (hN : X.N[i]? = some x) (hv : Vis X.env.scope x) (ha : PA X (e :: es) t)
    (hdb : (x == ("__debug__" : Str)) = false := by decide) (hcd : (x == ("__classdict__" : Str)) = false := by decide)
    (he : starEach (e :: es) X.env = (false, eval e X.env) :: starEach es X.env := by rfl) (hpl : (backTo pos (starEach es X.env)).any (·.1) = false := by rfl) : PE X (.Call (.Name x p) (e :: es) [] pos) (tCallI i C sp E t) := by
  refine ⟨fun pins s σ H Q I h => ?_⟩
  obtain ⟨a, dx, fs, hσ, hha, ht⟩ := h
  refine wpAny_Call_Name_kw (thn ((pe_var (pos := p) hN hv hdb hcd).run pins s σ H (fun v H1 => v = .ref a ∧ H1 = H) I ⟨.ref a, hσ, rfl, rfl⟩) fun u s1 ⟨v, H1, I1, r1, q1⟩ => ?_)
  obtain ⟨rfl, rfl⟩ := q1
  cases r1
  refine callWithI (thn (ha.run pos pins s1 σ _ _ I1 ht) fun us s2 ⟨vs, H2, I2, r, ⟨dy, gs, hb⟩, q⟩ => ?_) he hpl
  obtain ⟨oy, od2, J2, hd2⟩ := ins_at I2 hb
  refine ⟨⟨oy, C, od2, J2, hd2⟩, wpAny_call (PySem.W.kco_code I2.kIn J2 hd2 hs hf hfn ?_)⟩
  exact run_fnR (us := .ref a :: us) (vs := .ref a :: vs) F hr hx I2 (.cons rfl r) q
end
end Lr
namespace Lr
open PySem L2 PySem.Spec PyProof.Rows
/-! ### instances by data: one field, never changed -/
def insM (C : Addr) (f : Str) (d : PyData) : Mo := ⟨fun H v => ∃ a dx x, v = .ref a ∧ H a = some (.ins C dx [(f, x)]) ∧ Dd H x d, fun e h => by
  obtain ⟨a, dx, x, h1, h2, h3⟩ := h
  exact ⟨a, dx, x, h1, e _ _ h2, h3.mono e⟩⟩
/-- e.f -/
def wFld (K : PySem.W.Frag) (f : Str) (wa : WE) : WE := fun ρ P => wa ρ fun s => ∃ C d, s = .o (insM C f d) ∧ Cls K C ∧ NoAttr K C f ∧ P (.d d)
instance le_fld {K : PySem.W.Frag} {f : Str} {ta : TE} {wa : WE} [ha : LE ta wa] : LE (tFld K ta f) (wFld K f wa) := ⟨fun hs hid own H σ ρ P Q r hw k => by
  refine ha.go hs hid own H σ ρ _ _ r hw fun s v H1 p e1 q => ?_
  obtain ⟨C, d, rfl, c, n, pk⟩ := p
  obtain ⟨a, dx, x, rfl, h2, h3⟩ := q
  exact ⟨a, C, dx, _, x, rfl, hide_ex _ _ h2, c, n, by simp [List.lookup], k _ _ _ pk e1 h3⟩⟩
/-- e.p, a property -/
def wProp (C : Addr) (f : Str) (R : RR) (wa : WE) : WE := fun ρ P => wa ρ fun s => (∃ d, s = .o (insM C f d)) ∧ R [s] P
theorem le_prop {C : Addr} {f : Str} {R : RR} {E : XK} {ta : TE} {wa : WE} [ha : LE ta wa] : LE (tProp C (spQ 1 R) [] E ta) (wProp C f R wa) := ⟨fun hs hid own H σ ρ P Q r hw k => by
  refine ha.go hs hid own H σ ρ _ _ r hw fun s v H1 p e1 q => ?_
  obtain ⟨⟨d, rfl⟩, hR⟩ := p
  have q0 := q
  obtain ⟨a, dx, x, rfl, h2, h3⟩ := q
  have r1 := r.mono e1
  exact ⟨a, dx, _, rfl, hide_ex _ _ h2, Oo hid own, [_], P, rfl, r1.occ, .cons q0 .nil, hR, fun s v H' p e q => k s v H' p (e1.trans e) q⟩⟩
/-- x in y -/
def wInI (C : Addr) (f : Str) (R : RR) (wa wb : WE) : WE := fun ρ P => wa ρ fun sx => wb ρ fun sy => (∃ d, sy = .o (insM C f d)) ∧ R [sy, sx] fun s => asB s fun b => P (.d (.bool b))
theorem le_inI {C : Addr} {f : Str} {R : RR} {E : XK} {ta tb : TE} {wa wb : WE} [ha : LE ta wa] [hb : LE tb wb] : LE (tOp (rInI C (spQ 2 R) E) ta tb) (wInI C f R wa wb) := ⟨fun hs hid own H σ ρ P Q r hw k => by
  refine ha.go hs hid own H σ ρ _ _ r hw fun sx x H1 p1 e1 q1 => ?_
  refine hb.go hs hid own H1 σ ρ _ _ (r.mono e1) p1 fun sy y H2 p2 e2 q2 => ?_
  obtain ⟨⟨d, rfl⟩, hR⟩ := p2
  have q0 := q2
  obtain ⟨a, dx, z, rfl, h2, h3⟩ := q2
  have r2 := (r.mono e1).mono e2
  refine ⟨a, dx, _, rfl, hide_ex _ _ h2, Oo hid own, [_, sx], _, rfl, r2.occ, .cons q0 (.cons (q1.mono (hide_mono e2)) .nil), hR, fun s v H' p e q => ?_⟩
  unfold asB at p
  split at p
  · rename_i b
    cases q
    exact ⟨b, rfl, k _ _ H' p ((e1.trans e2).trans e) (.bl b)⟩
  · exact p.elim⟩
/-- y[x], which may raise -/
def wIxI (C : Addr) (f : Str) (R : RX) (wa wb : WE) : PX → WE := fun xp ρ P => wa ρ fun sy => wb ρ fun sx => (∃ d, sy = .o (insM C f d)) ∧ R [sy, sx] P xp
theorem lex_ixI {C : Addr} {f : Str} {R : RX} {E : XK} {ta tb : TE} {wa wb : WE} [ha : LE ta wa] [hb : LE tb wb] : LEX E (tOp (rIxI C (spX 2 R) E) ta tb) (wIxI C f R wa wb) := ⟨fun hs hid own H σ ρ xp P Q r hx hw k => by
  refine ha.go hs hid own H σ ρ _ _ r hw fun sy y H1 p1 e1 q1 => ?_
  refine hb.go hs hid own H1 σ ρ _ _ (r.mono e1) p1 fun sx x H2 p2 e2 q2 => ?_
  obtain ⟨⟨d, rfl⟩, hR⟩ := p2
  have q0 := q1.mono (hide_mono e2)
  have q3 := q0
  obtain ⟨a, dx, z, rfl, h2, h3⟩ := q3
  have r2 := (r.mono e1).mono e2
  exact ⟨a, dx, _, rfl, hide_ex _ _ h2, Oo hid own, [_, sx], P, xp, rfl, r2.occ, .cons q0 (.cons q2 .nil), hR, fun s v H' p e q => k s v H' p ((e1.trans e2).trans e) q, hx.mono r2.ex oo_le⟩⟩
/-- x(..), which may raise -/
def wCallI (i : Nat) (C : Addr) (f : Str) (n : Nat) (R : RX) (a : WA) : PX → WE := fun xp ρ P => ∃ d, ρ[i]? = some (some (.o (insM C f d))) ∧ a ρ fun ss => ss.length = n ∧ R (.o (insM C f d) :: ss) P xp
theorem lex_callI {i : Nat} {C : Addr} {f : Str} {n : Nat} {R : RX} {E : XK} {t : TA} {a : WA} [ha : LA t a] : LEX E (tCallI i C (spX (n + 1) R) E t) (wCallI i C f n R a) := ⟨fun hs hid own H σ ρ xp P Q r hx hw k => by
  obtain ⟨d, hi, hw⟩ := hw
  obtain ⟨v, hv, q⟩ := r.get i _ hi
  have q0 : Re (Bh hid own H) v (.o (insM C f d)) := q
  obtain ⟨b, dx, x, rfl, h2, h3⟩ := q
  refine ⟨b, dx, _, hv, hide_ex _ _ h2, ha.go hs hid own H σ ρ _ _ r hw fun ss vs H1 p e1 qs => ?_⟩
  have r1 := r.mono e1
  refine ⟨⟨dx, _, e1 _ _ (hide_ex _ _ h2)⟩, Oo hid own, _ :: ss, P, xp, by rw [List.length_cons, p.1], r1.occ, .cons (q0.mono (hide_mono e1)) qs, p.2, fun s v H' p e q => k s v H' p (e1.trans e) q, hx.mono r1.ex oo_le⟩⟩
/-- x == y -/
def wEqI (C : Addr) (f : Str) (R : RR) (wa wb : WE) : WE := fun ρ P => wa ρ fun sx => wb ρ fun sy => (∃ d, sx = .o (insM C f d)) ∧ ((∃ d, sy = .o (insM C f d)) ∨ ∃ ds, sy = .d (.tuple ds)) ∧ R [sx, sy] P
theorem le_eqI {C : Addr} {f : Str} {R : RR} {E : XK} {K : PySem.W.Frag} {ta tb : TE} {wa wb : WE} [ha : LE ta wa] [hb : LE tb wb] : LE (tOp (rEqI C (spQ 2 R) E K) ta tb) (wEqI C f R wa wb) := ⟨fun hs hid own H σ ρ P Q r hw k => by
  refine ha.go hs hid own H σ ρ _ _ r hw fun sx x H1 p1 e1 q1 => ?_
  refine hb.go hs hid own H1 σ ρ _ _ (r.mono e1) p1 fun sy y H2 p2 e2 q2 => ?_
  obtain ⟨⟨d, rfl⟩, hy, hR⟩ := p2
  have q0 := q1.mono (hide_mono e2)
  have q3 := q0
  obtain ⟨a, dx, z, rfl, h2, h3⟩ := q3
  have r2 := (r.mono e1).mono e2
  have fin : spQ 2 R [.ref a, y] H2 Q E := ⟨Oo hid own, [_, sy], P, rfl, r2.occ, .cons q0 (.cons q2 .nil), hR, fun s v H' p e q => k s v H' p ((e1.trans e2).trans e) q⟩
  rcases hy with ⟨d2, rfl⟩ | ⟨ds, rfl⟩
  · obtain ⟨b, dy, z2, rfl, g2, g3⟩ := q2
    exact ⟨a, dx, _, b, rfl, rfl, hide_ex _ _ h2, .inl ⟨dy, _, hide_ex _ _ g2⟩, fin⟩
  · obtain ⟨b, vs, rfl, g1, _⟩ := Rb.tuple (.inl q2)
    exact ⟨a, dx, _, b, rfl, rfl, hide_ex _ _ h2, .inr ⟨vs, g1.ex hide_ex⟩, fin⟩⟩
/-- what a class's __init__ with one field promises -/
def spIni1 (C : Addr) (f : Str) (R : RX) : Sp := fun vs H Q E => ∃ hid x dx v d ok xp, vs = [.ref x, v] ∧ H x = some (.ins C dx []) ∧ (∀ a, hid a → H a ≠ none) ∧ ¬ hid x ∧ Dd (hide hid H) v d ∧ R [.d d] (fun _ => ok) xp ∧
  (ok → ∀ H', (∀ b o, b ≠ x → H b = some o → H' b = some o) → H' x = some (.ins C dx [(f, v)]) → Q .non H') ∧ ∀ xv ad H', xp xv → (∀ b o, b ≠ x → H b = some o → H' b = some o) → XRel (hide hid H') ad xv → E (.ref xv.C) ad H'
/-- C(e), which may raise -/
def wMake (C : Addr) (f : Str) (R : RX) (a : WA) : PX → WE := fun xp ρ P => a ρ fun ss => ∃ d, ss = [.d d] ∧ R [.d d] (fun _ => P (.o (insM C f d))) xp
theorem lex_make {C : Addr} {f : Str} {R : RX} {E : XK} {t : TA} {a : WA} [ha : LA t a] : LEX E (tMake C (spIni1 C f R) [] E t) (wMake C f R a) := ⟨fun hs hid own H σ ρ xp P Q r hx hw k => by
  refine ha.go hs hid own H σ ρ _ _ r hw fun ss vs H1 p e1 q => ?_
  obtain ⟨d, rfl, hR⟩ := p
  cases q with
  | cons q t =>
    cases t
    intro x dx hx0 hd0 ne
    have r1 := r.mono e1
    have nx : ¬ Oo hid own x := r1.notO hx0
    have up : ∀ b o, H1 b = some o → b ≠ x ∧ (upd (upd H1 dx (.own x)) x (.ins C dx [])) b = some o := fun b o hb => by
      have n1 : b ≠ x := ne_of_none hb hx0
      have n2 : b ≠ dx := ne_of_none hb hd0
      exact ⟨n1, by rw [upd_ne n1, upd_ne n2]; exact hb⟩
    have ex1 : Ex H1 (upd (upd H1 dx (.own x)) x (.ins C dx [])) := fun b o hb => (up b o hb).2
    rw [List.append_nil]
    refine ⟨Oo hid own, x, dx, _, d, _, xp, rfl, upd_same, fun b h z => ?_, nx, q.mono (hide_mono ex1), hR, fun ok H' keep hx' => ⟨rfl, ?_⟩, fun xv ad H' px keep xr => ?_⟩
    · cases hb : H1 b with
      | none => exact r1.occ b h hb
      | some o => rw [(up b o hb).2] at z; cases z
    · have ex2 : Ex H1 H' := fun b o hb => keep b o (up b o hb).1 (up b o hb).2
      exact k _ _ H' ok (e1.trans ex2) ⟨x, dx, _, rfl, (hide_of nx).trans hx', q.mono (hide_mono ex2)⟩
    · have ex2 : Ex H1 H' := fun b o hb => keep b o (up b o hb).1 (up b o hb).2
      exact hx xv ad H' px (r1.ex.trans ex2) (xr.mono (hide_le oo_le))⟩
end Lr

namespace Lr
open PySem L2 PySem.Spec PyProof.Rows
/-! ### own classes: their defs by name, also within a try -/
section
variable (P : Program) (w : World) (K : PySem.W.Frag) (mg : Str → Option Value) (base : Heap)
/-- a special of the class at C -/
def OwnM (CX : CXT) (n : Nat) (C : Addr) (m : Str) (sp : Sp) : Prop := ∃ g, PySem.W.findIn K (.ref C) m = some (some (.ref g)) ∧ PySem.W.isFn K (.ref g) = true ∧ PySem.W.fnIn K g = true ∧ FnR P w K mg base CX n g sp
/-- a property -/
def OwnP (n : Nat) (C : Addr) (f : Str) (sp : Sp) : Prop := Cls K C ∧ ∃ p g fd, PropOf K C f p g ∧ FnOk P w K mg base CX0 n g fd ["self"] sp ∧ Binds K fd ["self"] []
/-- the class, made by its name -/
def OwnMk (n : Nat) (x : Str) (C : Addr) (sp : Sp) : Prop := ∃ f, L2.Mk K C f ∧ FnR P w K mg base (L2.CX P w) n f sp ∧ mg x = some (.ref C)
end
section
variable {X : Cx} {CX : CXT} {n : Nat} {C g : Addr} {sp : Sp} {E : L2.St → XK}
theorem runS {pins : List (Addr × Obj)} {σ : L2.St} {H : Hp} {s : Shared} {A : Around} {Q : VK} {us : List Value} {ws : List V} {e1 : XK} (F : FnR X.prog X.w X.K X.mg X.base CX n g sp)
    (room : Room n A) (low : Env0 X.prog X.w X.K X.mg X.base A X.stack s H) (out : PassesAt CX X σ e1) (I : Inv X pins σ H s) (r : Vals ws us) (q : sp ws H Q e1) :
    codeAny (model X.prog X.w) A (.call (.ref g) ⟨us, []⟩) (fun z t => match z with
      | .ok (.ret v) => EP X pins σ Q v t
      | .ok _ => False
      | .error er => X.xe er t) s := by
  refine codeAny_mono (F A X.stack s H us ws Q e1 room low r q) fun z t y => ?_
  cases z with
  | error er => exact out pins H s er t I y
  | ok fl =>
    cases fl with
    | ret u => exact I.after y
    | next => exact y.elim
    | brk => exact y.elim
    | cont => exact y.elim
def tIxS (C : Addr) (sp : Sp) (E : L2.St → XK) (ta tb : TE) : TE := fun σ H Q => tOp (rIxI C sp (E σ)) ta tb σ H Q
theorem pe_ixQ {a b : Expr} {ta tb : TE} {pos : Pos} (O : OwnM X.prog X.w X.K X.mg X.base CX n C "__getitem__" sp) (room : Room (n + 1) X.A) (out : ∀ σ, PassesAt CX X σ (E σ)) (ha : PE X a ta) (hb : PE X b tb)
    (hsl : ∀ o i, subscripted b true o i = runValue (.builtin "lifetime.subscript" ⟨[o, i], []⟩) := by exact fun _ _ => rfl) : PE X (.Subscript a b pos) (tIxS C sp E ta tb) := by
  obtain ⟨g, f1, f2, f3, F⟩ := O
  refine ⟨fun pins s σ H Q I h => Subscript_ (binT ha hb I h fun v u s2 x y H2 I2 rx ry q => ?_)⟩
  obtain ⟨c, dx, fs, rfl, hc, q⟩ := q
  cases (show v = Value.ref c from rx)
  obtain ⟨ox, od, J, _⟩ := ins_at I2 hc
  obtain ⟨m, hF⟩ := I2.fr
  refine PySem.W.sub_K hF I2.ok.mod.kin J f1 f3 f2 ?_ (hsl _ _)
  exact wpAny_call (runS (us := [.ref c, u]) (ws := [.ref c, y]) F (Room.in1 room) I2.env0.in1 (out σ) I2 (.cons rfl (.cons ry .nil)) q)
def tCallIS (i : Nat) (C : Addr) (sp : Sp) (E : L2.St → XK) (t : TA) : TE := fun σ H Q => tCallI i C sp (E σ) t σ H Q
theorem pe_callQ {i : Nat} {x : Str} {p pos : Pos} {e : Expr} {es : List Expr} {t : TA} (O : OwnM X.prog X.w X.K X.mg X.base CX n C "__call__" sp) (room : Room n X.A) (out : ∀ σ, PassesAt CX X σ (E σ)) (hN : X.N[i]? = some x) (hv : Vis X.env.scope x) (ha : PA X (e :: es) t)
    (d1 : (x == ("__debug__" : Str)) = false := by decide) (d2 : (x == ("__classdict__" : Str)) = false := by decide)
    (d3 : starEach (e :: es) X.env = (false, eval e X.env) :: starEach es X.env := by rfl) (d4 : (backTo pos (starEach es X.env)).any (·.1) = false := by rfl) : PE X (.Call (.Name x p) (e :: es) [] pos) (tCallIS i C sp E t) := by
  obtain ⟨g, f1, f2, f3, F⟩ := O
  refine ⟨fun pins s σ H Q I h => ?_⟩
  obtain ⟨a, dx, fs, hσ, hha, ht⟩ := h
  refine wpAny_Call_Name_kw (thn ((pe_var (pos := p) hN hv d1 d2).run pins s σ H (fun v H1 => v = .ref a ∧ H1 = H) I ⟨.ref a, hσ, rfl, rfl⟩) fun u s1 ⟨v, H1, I1, r1, q1⟩ => ?_)
  obtain ⟨rfl, rfl⟩ := q1
  cases r1
  refine callWithI (thn (ha.run pos pins s1 σ _ _ I1 ht) fun us s2 ⟨vs, H2, I2, r, ⟨dy, gs, hb⟩, q⟩ => ?_) d3 d4
  obtain ⟨oy, od2, J2, hd2⟩ := ins_at I2 hb
  refine ⟨⟨oy, C, od2, J2, hd2⟩, wpAny_call (PySem.W.kco_code I2.kIn J2 hd2 f1 f2 f3 ?_)⟩
  exact runS (us := .ref a :: us) (ws := .ref a :: vs) F room I2.env0 (out σ) I2 (.cons rfl r) q
def tMakeS (C : Addr) (sp : Sp) (E : L2.St → XK) (t : TA) : TE := fun σ H Q => StX.tMakeR C sp (E σ) t σ H Q
theorem makeS {pins : List (Addr × Obj)} {σ : L2.St} {H : Hp} {s : Shared} {Q : VK} {us : List Value} {vs : List V} {f : Addr} {e1 : XK} (M : L2.Mk X.K C f) (F : FnR X.prog X.w X.K X.mg X.base CX n f sp) (room : Room (n + 1) X.A) (out : PassesAt CX X σ e1) (I : Inv X pins σ H s) (r : Vals vs us)
    (q : ∀ x dx, H x = none → H dx = none → dx ≠ x → sp (V.ref x :: vs) (upd (upd H dx (.own x)) x (.ins C dx [])) (fun v H2 => v = .non ∧ Q (.ref x) H2) e1) : wpAny (model X.prog X.w) X.A (call (.ref C) us) (EP X pins σ Q) X.xe s := by
  have at_ := q (s.heap.objs.size + 1) s.heap.objs.size (I.hok.fresh (Nat.le_succ _)) (I.hok.fresh (Nat.le_refl _)) (Nat.ne_of_lt (Nat.lt_succ_self _))
  have J := Inv.made (C := C) I
  have rr : Vals (V.ref (s.heap.objs.size + 1) :: vs) (Value.ref (s.heap.objs.size + 1) :: us) := .cons rfl r
  have go := F _ X.stack _ _ (Value.ref (s.heap.objs.size + 1) :: us) _ _ e1 (room.make C us []) (J.env0.make C us []) rr at_
  refine wpAny_call (make_map (f := f) I.kIn M.makes M.init (beq_iff_eq.mp M.fn) (codeAny_mono go fun z t y => ?_))
  cases z with
  | error er => exact out pins _ _ er t J y
  | ok fl =>
    cases fl with
    | ret u =>
      obtain ⟨v, H', I3, rv, rfl, q3⟩ := J.after y
      exact ⟨rv, ⟨V.ref (s.heap.objs.size + 1), H', I3, rfl, q3⟩⟩
    | next => exact y.elim
    | brk => exact y.elim
    | cont => exact y.elim
theorem pe_mkQ {x : Str} {p pos : Pos} {e : Expr} {es : List Expr} {t : TA} (O : OwnMk X.prog X.w X.K X.mg X.base n x C sp) (room : Room (n + 1) X.A) (out : ∀ σ, PassesAt (L2.CX X.prog X.w) X σ (E σ)) (hg : Gl X x) (ha : PA X (e :: es) t)
    (d1 : (x == ("__debug__" : Str)) = false := by decide) (d3 : starEach (e :: es) X.env = (false, eval e X.env) :: starEach es X.env := by rfl) (d4 : (backTo pos (starEach es X.env)).any (·.1) = false := by rfl) : PE X (.Call (.Name x p) (e :: es) [] pos) (tMakeS C sp E t) := by
  obtain ⟨f, M, F, hm⟩ := O
  refine ⟨fun pins s σ H Q I h => wpAny_Call_Name_kw (ld_glob I hg hm ?_ d1)⟩
  refine PySem.W.callWith_K (h₀ := X.base) I.ok.mod.kin M.kp (thn (ha.run pos pins s σ H _ I h) fun us s1 ⟨vs, H1, I1, r, q⟩ => ⟨I1.kIn, ?_⟩) d3 d4
  exact makeS M F room (out σ) I1 r q
theorem outN {X : Cx} (σ : L2.St) : PassesAt (L2.CX X.prog X.w) X σ E0 := passAt (W := fun cls d _ H => E0 cls d H) takesN σ
theorem outX {X : Cx} {E : XK} (tk : Takes X (fun cls d _ H => E cls d H)) (σ : L2.St) : PassesAt (L2.CX X.prog X.w) X σ E := passAt (W := fun cls d _ H => E cls d H) tk σ
theorem pe_propQ {f : Str} {e : Expr} {ta : TE} {pos : Pos} (O : OwnP X.prog X.w X.K X.mg X.base n C f sp) (room : Room (n + 1) X.A) (he : PE X e ta) (hab : attributeBase e f X.env (eval e X.env) = eval e X.env := by rfl) : PE X (.Attribute e f pos) (tProp C sp [] E0 ta) := by
  obtain ⟨c, p, g, fd, hp, F, hb⟩ := O
  exact pe_prop he c hp F room hb .nil pass0 hab
theorem op_inQ (O : OwnM X.prog X.w X.K X.mg X.base CX0 n C "__contains__" sp) (room : Room n X.A) : OpR X (compareOp .In) (rInI C sp E0) := by
  obtain ⟨g, f1, f2, f3, F⟩ := O
  exact op_inI f1 f2 F room pass0
theorem op_eqQ (O : OwnM X.prog X.w X.K X.mg X.base CX0 n C "__eq__" sp) (nf : PySem.W.notFirst X.K C (.type "tuple") = true) (room : Room n X.A) : OpR X (compareOp .Eq) (rEqI C sp E0 X.K) := by
  obtain ⟨g, f1, f2, f3, F⟩ := O
  exact op_eqI f1 f2 nf F room pass0
/-- x(e, .., *y), x a def with a star -/
theorem pe_calRS {k : Nat} {x : Str} {E : XK} {e : Expr} {es : List Expr} {t : TA} {p pos : Pos} (O : CalR X.prog X.w X.K X.mg X.base k x sp) (room : Room k X.A) (tk : Takes X (fun cls d _ H => E cls d H)) (hg : Gl X x) (ha : PA X (e :: es) t)
    (d1 : (x == ("__debug__" : Str)) = false := by decide) (d3 : starEach (e :: es) X.env = (false, eval e X.env) :: starEach es X.env := by rfl) (d4 : (backTo pos (starEach es X.env)).any (·.1) = true := by rfl) :
    PE X (.Call (.Name x p) (e :: es) [] pos) (tCall sp [] E t) := by
  obtain ⟨f, G, m, kp⟩ := O
  have h := StX.pe_callS2 (p := p) G room kp hg m (passes_call tk fun _ _ _ _ h => h) ha d1 d3 d4
  refine ⟨fun pins s σ H Q I q => h.run pins s σ H Q I ?_⟩
  have e : (fun (vs : List V) (H1 : Hp) => sp (vs ++ []) H1 Q E) = fun vs H1 => sp vs H1 Q E := by funext vs H1; rw [List.append_nil]
  have q : t σ H fun vs H1 => sp (vs ++ []) H1 Q E := q
  rw [e] at q
  exact q
end
/-! ### readings -/
def wPropQ (C : Addr) (R : RR) (wa : WE) : WE := fun ρ P => wa ρ fun s => (∃ f d, s = .o (insM C f d)) ∧ R [s] P
instance le_propQ {C : Addr} {R : RR} {E : XK} {ta : TE} {wa : WE} [ha : LE ta wa] : LE (tProp C (spQ 1 R) [] E ta) (wPropQ C R wa) := ⟨fun hs hid own H σ ρ P Q r hw k => by
  refine ha.go hs hid own H σ ρ _ _ r hw fun s v H1 p e1 q => ?_
  obtain ⟨⟨f, d, rfl⟩, hR⟩ := p
  have q0 := q
  obtain ⟨a, dx, x, rfl, h2, h3⟩ := q
  have r1 := r.mono e1
  exact ⟨a, dx, _, rfl, hide_ex _ _ h2, Oo hid own, [_], P, rfl, r1.occ, .cons q0 .nil, hR, fun s v H' p e q => k s v H' p (e1.trans e) q⟩⟩
def wPropX (C : Addr) (R : RR) (wa : PX → WE) : PX → WE := fun xp ρ P => wa xp ρ fun s => (∃ f d, s = .o (insM C f d)) ∧ R [s] P
instance les_prop {C : Addr} {R : RR} {E : XK} {ta : WX → TE} {wa : PX → WE} [ha : LES ta wa] : LES (fun W => tProp C (spQ 1 R) [] E (ta W)) (wPropX C R wa) := ⟨fun hs hid own H σ ρ xp P Q W r hx hw k => by
  refine ha.go hs hid own H σ ρ xp _ _ W r hx hw fun s v H1 p e1 q => ?_
  obtain ⟨⟨f, d, rfl⟩, hR⟩ := p
  have q0 := q
  obtain ⟨a, dx, x, rfl, h2, h3⟩ := q
  have r1 := r.mono e1
  exact ⟨a, dx, _, rfl, hide_ex _ _ h2, Oo hid own, [_], P, rfl, r1.occ, .cons q0 .nil, hR, fun s v H' p e q => k s v H' p (e1.trans e) q⟩⟩
def wInQ (C : Addr) (R : RR) (wa wb : WE) : WE := fun ρ P => wa ρ fun sx => wb ρ fun sy => (∃ f d, sy = .o (insM C f d)) ∧ R [sy, sx] fun s => asB s fun b => P (.d (.bool b))
instance (priority := 2000) le_inQ {C : Addr} {R : RR} {E : XK} {ta tb : TE} {wa wb : WE} [ha : LE ta wa] [hb : LE tb wb] : LE (tOp (rInI C (spQ 2 R) E) ta tb) (wInQ C R wa wb) := ⟨fun hs hid own H σ ρ P Q r hw k => by
  refine ha.go hs hid own H σ ρ _ _ r hw fun sx x H1 p1 e1 q1 => ?_
  refine hb.go hs hid own H1 σ ρ _ _ (r.mono e1) p1 fun sy y H2 p2 e2 q2 => ?_
  obtain ⟨⟨f, d, rfl⟩, hR⟩ := p2
  have q0 := q2
  obtain ⟨a, dx, z, rfl, h2, h3⟩ := q2
  have r2 := (r.mono e1).mono e2
  refine ⟨a, dx, _, rfl, hide_ex _ _ h2, Oo hid own, [_, sx], _, rfl, r2.occ, .cons q0 (.cons (q1.mono (hide_mono e2)) .nil), hR, fun s v H' p e q => ?_⟩
  unfold asB at p
  split at p
  · rename_i b
    cases q
    exact ⟨b, rfl, k _ _ H' p ((e1.trans e2).trans e) (.bl b)⟩
  · exact p.elim⟩
theorem ix_go {C : Addr} {R : RX} {ta tb : TE} {wa wb : WE} (ha : LE ta wa) (hb : LE tb wb) {hs : Hp} {hid : Addr → Prop} {own : Ix → Option Addr} {H : Hp} {σ : L2.St} {ρ : Ro} {xp : PX} {P : SV → Prop} {Q : VK} {e1 : XK} (r : Rep hs hid own H σ ρ) (hx : XOk H (Oo hid own) e1 xp)
    (hw : wa ρ fun sy => wb ρ fun sx => (∃ f d, sy = .o (insM C f d)) ∧ R [sy, sx] P xp) (k : ∀ s v H', P s → Ex H H' → Re (Bh hid own H') v s → Q v H') : tOp (rIxI C (spX 2 R) e1) ta tb σ H Q := by
  refine ha.go hs hid own H σ ρ _ _ r hw fun sy y H1 p1 f1 q1 => ?_
  refine hb.go hs hid own H1 σ ρ _ _ (r.mono f1) p1 fun sx x H2 p2 f2 q2 => ?_
  obtain ⟨⟨f, d, rfl⟩, hR⟩ := p2
  have q0 := q1.mono (hide_mono f2)
  have q3 := q0
  obtain ⟨a, dx, z, rfl, h2, h3⟩ := q3
  have r2 := (r.mono f1).mono f2
  exact ⟨a, dx, _, rfl, hide_ex _ _ h2, Oo hid own, [_, sx], P, xp, rfl, r2.occ, .cons q0 (.cons q2 .nil), hR, fun s v H' p e q => k s v H' p ((f1.trans f2).trans e) q, hx.mono (f1.trans f2) fun _ z => z⟩
def wIxQ (C : Addr) (R : RX) (wa wb : WE) : PX → WE := fun xp ρ P => wa ρ fun sy => wb ρ fun sx => (∃ f d, sy = .o (insM C f d)) ∧ R [sy, sx] P xp
instance les_ix {C : Addr} {R : RX} {ta tb : TE} {wa wb : WE} [ha : LE ta wa] [hb : LE tb wb] : LES (fun W => tIxS C (spX 2 R) (L2.WE W) ta tb) (wIxQ C R wa wb) := ⟨fun hs hid own H σ ρ xp P Q W r hx hw k => ix_go ha hb r hx hw k⟩
def wCallIQ (i : Nat) (C : Addr) (n : Nat) (R : RX) (a : WA) : PX → WE := fun xp ρ P => gv ρ[i]? fun s => (∃ f d, s = .o (insM C f d)) ∧ a ρ fun ss => ss.length = n ∧ R (s :: ss) P xp
instance les_callI {i : Nat} {C : Addr} {n : Nat} {R : RX} {t : TA} {a : WA} [ha : LA t a] : LES (fun W => tCallIS i C (spX (n + 1) R) (L2.WE W) t) (wCallIQ i C n R a) := ⟨fun hs hid own H σ ρ xp P Q W r hx hw k => by
  obtain ⟨s, v, p, hv, q0⟩ := gv_get r hw
  obtain ⟨⟨f, d, rfl⟩, p⟩ := p
  have q := q0
  obtain ⟨b, dx, x, rfl, h2, h3⟩ := q
  refine ⟨b, dx, _, hv, hide_ex _ _ h2, ha.go hs hid own H σ ρ _ _ r p fun ss vs H1 p e1 qs => ?_⟩
  have r1 := r.mono e1
  refine ⟨⟨dx, _, e1 _ _ (hide_ex _ _ h2)⟩, Oo hid own, _ :: ss, P, xp, by rw [List.length_cons, p.1], r1.occ, .cons (q0.mono (hide_mono e1)) qs, p.2, fun s v H' p e q => k s v H' p (e1.trans e) q, hx.mono e1 fun _ z => z⟩⟩
theorem make_go {C : Addr} {f : Str} {R : RX} {t : TA} {a : WA} (ha : LA t a) {hs : Hp} {hid : Addr → Prop} {own : Ix → Option Addr} {H : Hp} {σ : L2.St} {ρ : Ro} {xp : PX} {P : SV → Prop} {Q : VK} {e0 : XK} (r : Rep hs hid own H σ ρ) (hx : XOk H (Oo hid own) e0 xp)
    (hw : wMake C f R a xp ρ P) (k : ∀ s v H', P s → Ex H H' → Re (Bh hid own H') v s → Q v H') : StX.tMakeR C (spIni1 C f R) e0 t σ H Q := by
  refine ha.go hs hid own H σ ρ _ _ r hw fun ss vs H1 p e1 q => ?_
  obtain ⟨d, rfl, hR⟩ := p
  cases q with
  | cons q t =>
    cases t
    intro x dx hx0 hd0 ne
    have r1 := r.mono e1
    have nx : ¬ Oo hid own x := r1.notO hx0
    have up : ∀ b o, H1 b = some o → b ≠ x ∧ (upd (upd H1 dx (.own x)) x (.ins C dx [])) b = some o := fun b o hb => by
      have n1 : b ≠ x := ne_of_none hb hx0
      have n2 : b ≠ dx := ne_of_none hb hd0
      exact ⟨n1, by rw [upd_ne n1, upd_ne n2]; exact hb⟩
    have ex1 : Ex H1 (upd (upd H1 dx (.own x)) x (.ins C dx [])) := fun b o hb => (up b o hb).2
    refine ⟨Oo hid own, x, dx, _, d, _, xp, rfl, upd_same, fun b h z => ?_, nx, q.mono (hide_mono ex1), hR, fun ok H' keep hx' => ⟨rfl, ?_⟩, fun xv ad H' px keep xr => ?_⟩
    · cases hb : H1 b with
      | none => exact r1.occ b h hb
      | some o => rw [(up b o hb).2] at z; cases z
    · have ex2 : Ex H1 H' := fun b o hb => keep b o (up b o hb).1 (up b o hb).2
      exact k _ _ H' ok (e1.trans ex2) ⟨x, dx, _, rfl, (hide_of nx).trans hx', q.mono (hide_mono ex2)⟩
    · have ex2 : Ex H1 H' := fun b o hb => keep b o (up b o hb).1 (up b o hb).2
      exact hx xv ad H' px (e1.trans ex2) xr
instance les_make {C : Addr} {f : Str} {R : RX} {t : TA} {a : WA} [ha : LA t a] : LES (fun W => tMakeS C (spIni1 C f R) (L2.WE W) t) (wMake C f R a) := ⟨fun hs hid own H σ ρ xp P Q W r hx hw k => make_go ha r hx hw k⟩
def wMake0 (C : Addr) (f : Str) (R : RX) (a : WA) : WE := wMake C f R a fun _ => False
instance le_make0 {C : Addr} {f : Str} {R : RX} {t : TA} {a : WA} [ha : LA t a] : LE (tMakeS C (spIni1 C f R) (fun _ => E0) t) (wMake0 C f R a) := ⟨fun hs hid own H σ ρ P Q r hw k => make_go ha r (xp := fun _ => False) (fun _ _ _ p _ _ => p.elim) hw k⟩
def wEqQ (C : Addr) (R : RR) (wa wb : WE) : WE := fun ρ P => wa ρ fun sx => wb ρ fun sy => (∃ f d, sx = .o (insM C f d)) ∧ ((∃ f d, sy = .o (insM C f d)) ∨ ∃ ds, sy = .d (.tuple ds)) ∧ R [sx, sy] P
instance (priority := 2000) le_eqQ {C : Addr} {R : RR} {E : XK} {K : PySem.W.Frag} {ta tb : TE} {wa wb : WE} [ha : LE ta wa] [hb : LE tb wb] : LE (tOp (rEqI C (spQ 2 R) E K) ta tb) (wEqQ C R wa wb) := ⟨fun hs hid own H σ ρ P Q r hw k => by
  refine ha.go hs hid own H σ ρ _ _ r hw fun sx x H1 p1 e1 q1 => ?_
  refine hb.go hs hid own H1 σ ρ _ _ (r.mono e1) p1 fun sy y H2 p2 e2 q2 => ?_
  obtain ⟨⟨f, d, rfl⟩, hy, hR⟩ := p2
  have q0 := q1.mono (hide_mono e2)
  have q3 := q0
  obtain ⟨a, dx, z, rfl, h2, h3⟩ := q3
  have r2 := (r.mono e1).mono e2
  have fin : spQ 2 R [.ref a, y] H2 Q E := ⟨Oo hid own, [_, sy], P, rfl, r2.occ, .cons q0 (.cons q2 .nil), hR, fun s v H' p e q => k s v H' p ((e1.trans e2).trans e) q⟩
  rcases hy with ⟨f2, d2, rfl⟩ | ⟨ds, rfl⟩
  · obtain ⟨b, dy, z2, rfl, g2, g3⟩ := q2
    exact ⟨a, dx, _, b, rfl, rfl, hide_ex _ _ h2, .inl ⟨dy, _, hide_ex _ _ g2⟩, fin⟩
  · obtain ⟨b, vs, rfl, g1, _⟩ := Rb.tuple (.inl q2)
    exact ⟨a, dx, _, b, rfl, rfl, hide_ex _ _ h2, .inr ⟨vs, g1.ex hide_ex⟩, fin⟩⟩
/-! isinstance(x, C), C an own class: x an instance of it, or a tuple -/
def rIsO (C : Addr) : List V → Hp → VK → Prop := fun xs H Q => ∃ a, xs = [.ref a, .ref C] ∧ ((∃ dx fs, H a = some (.ins C dx fs)) ∧ Q (.bl true) H ∨ (∃ ys, Ti H a ys) ∧ Q (.bl false) H)
theorem k_isO {X : Cx} {C : Addr} (c : C8.InsC X.K C) (nt : PySem.W.kitOne X.K (.type "tuple") (.ref C) = some false) : CallR X (.builtin "isinstance") (rIsO C) := by
  intro pins s σ H xs us Q I r h
  obtain ⟨a, rfl, h⟩ := h
  rcases h with ⟨⟨dx, fs, ha⟩, q⟩ | ⟨⟨ys, ha⟩, q⟩
  · exact C8.call_isC c pins s σ H _ us Q I r ⟨a, dx, fs, rfl, ha, q⟩
  · obtain ⟨o, ha, _⟩ := ha
    exact call_isi pins s σ H _ us Q I r ⟨_, _, _, _, false, rfl, .own C, .fTuple ha, nt, q⟩
def fIsO (C : Addr) : WC := fun ss P => (∃ f d, ss = [.o (insM C f d), .ref C] ∧ P (.d (.bool true))) ∨ (∃ ds, ss = [.d (.tuple ds), .ref C] ∧ P (.d (.bool false)))
instance dc_isO {C : Addr} : DC (rIsO C) (fIsO C) := ⟨fun hid own H vs ss P Q ho q hf k => by
  have ref : ∀ {v : V}, Rb hid own H v (.ref C) → v = .ref C := fun h => by
    rcases h with h | ⟨_, _, z, _⟩
    · exact h
    · cases z
  rcases hf with ⟨f, d, rfl, p⟩ | ⟨ds, rfl, p⟩
  · obtain ⟨v, v2, rfl, r1, r2⟩ := rb2 q
    obtain ⟨a, dx, x, rfl, h2, h3⟩ := rb_o r1
    exact ⟨a, by rw [ref r2], .inl ⟨⟨dx, _, hide_ex _ _ h2⟩, k _ _ H p (Evl.Ex.refl H) (.bl true)⟩⟩
  · obtain ⟨v, v2, rfl, r1, r2⟩ := rb2 q
    obtain ⟨a, vs, rfl, h2, _⟩ := r1.tuple
    exact ⟨a, by rw [ref r2], .inr ⟨⟨vs, h2.ex hide_ex⟩, k _ _ H p (Evl.Ex.refl H) (.bl false)⟩⟩⟩
theorem k_callIQ {i : Nat} {C : Addr} {n : Nat} {R : RX} {a : WA} {xp : PX} {ρ : Ro} {P : SV → Prop} : wCallIQ i C n R a xp ρ P = getK ρ i fun s => (∃ f d, s = .o (insM C f d)) ∧ a ρ fun ss => ss.length = n ∧ R (s :: ss) P xp := rfl
theorem pe_fldK {X : Cx} {K : PySem.W.Frag} {e : Expr} {f : Str} {pos : Pos} {ta : TE} (hK : X.K = K) (he : PE X e ta) (hb : attributeBase e f X.env (eval e X.env) = eval e X.env := by rfl) : PE X (.Attribute e f pos) (tFld K ta f) := by subst hK; exact pe_fld he hb
theorem op_eqQK {X : Cx} {K : PySem.W.Frag} {n : Nat} {C : Addr} {sp : Sp} (hK : X.K = K) (O : OwnM X.prog X.w X.K X.mg X.base CX0 n C "__eq__" sp) (nf : PySem.W.notFirst X.K C (.type "tuple") = true) (room : Room n X.A) : OpR X (compareOp .Eq) (rEqI C sp E0 K) := by subst hK; exact op_eqQ O nf room
/-! t[::-1] of a tuple: as many of its items at most -/
def tRevF (te : TE) : TE := fun σ H Q => te σ H fun x H1 => ∃ (a : Addr) (xs : List V), x = .ref a ∧ Tu H1 a xs ∧ ∀ (f : Nat → Nat) (k : Nat), k ≤ xs.length → newT ((List.range k).filterMap fun j => xs[f j]?) H1 Q
theorem pe_revF {X : Cx} {e : Expr} {te : TE} {k : Nat} {p1 p2 p3 pos : Pos} (he : PE X e te) : PE X (.Subscript e (.Slice none none (some (.UnaryOp .USub (.Constant (.int 1) k p1) p2)) p3) pos) (tRevF te) := by
  refine ⟨fun pins s σ H Q I h => Subscript_ (thn (he.run pins s σ H _ I h) ?_)⟩
  rintro v s1 ⟨x, H1, I1, r1, a, xs, rfl, hx, q⟩
  cases r1
  have step : PO X (some (.UnaryOp .USub (.Constant (.int 1) k p1) p2)) (tPart (tUn (rU fun i => .int (-i)) (tC (.int 1)))) := po_some (pe_un un_neg pe_int)
  refine wpAny_Slice (thn (po_none.run pins s1 σ H1 (fun o G => o = none ∧ G = H1) I1 ⟨rfl, rfl⟩) ?_)
  rintro vl s2 ⟨l, H2, I2, pl, rfl, rfl⟩
  refine thn (po_none.run pins s2 σ H2 (fun o G => o = none ∧ G = H2) I2 ⟨rfl, rfl⟩) ?_
  rintro vu s3 ⟨u, H3, I3, pu, rfl, rfl⟩
  refine thn (step.run pins s3 σ H3 (fun o G => o = some (-1) ∧ G = H3) I3 ⟨1, rfl, -1, rfl, rfl, rfl⟩) ?_
  rintro vs s4 ⟨o, H4, I4, ps, rfl, rfl⟩
  have I5 : Inv X pins σ H4 { s4 with heap := s4.heap.push { cls := .type "slice", data := .fields #[vl, vu, vs] } } := I4.kept (t' := s4.toks) fun b ob q => Heap.get?_push_of_some _ q
  obtain ⟨its, rv, ht, hz⟩ := I5.tuple (Tu.sq hx)
  have hlen : its.length = xs.length := rv.length.symm
  refine tail_any (ops := [.ref a, .ref s4.heap.objs.size]) ht.typeIs (PyProof.Rows.slot_tuple_getitem.lookup) ?_ (by with_unfolding_all rfl)
  refine getItem_back ht (Heap.IsSliceOf.new _ vl vu vs) pl pu ps (by rw [List.size_toArray, hlen]; exact hz) fun lo n hn => ?_
  have hn2 : n ≤ xs.length := by rw [List.size_toArray, hlen] at hn; exact hn
  have same : ((List.range n).filterMap fun (j : Nat) => its.toArray[(lo + (j : Int) * -1).toNat]?) = (List.range n).filterMap fun (j : Nat) => its[(lo + (j : Int) * -1).toNat]? := by
    congr 1
    funext j
    simp
  rw [same]
  have rv2 := vals_pick rv (fun j => (lo + (j : Int) * -1).toNat) (List.range n)
  have l2 : ((List.range n).filterMap fun (j : Nat) => xs[(lo + (j : Int) * -1).toNat]?).length ≤ sizeLine := by
    have := List.length_filterMap_le (fun (j : Nat) => xs[(lo + (j : Int) * -1).toNat]?) (List.range n)
    rw [List.length_range] at this
    omega
  exact laidT I5 rv2 l2 (q _ n hn2)
theorem DdAll.pick {H : Hp} {vs : List V} {ds : List PyData} (h : DdAll H vs ds) (f : Nat → Nat) : ∀ l : List Nat, DdAll H (l.filterMap fun k => vs[f k]?) (l.filterMap fun k => ds[f k]?)
  | [] => .nil
  | k :: l => by
    have rest := DdAll.pick h f l
    rw [List.filterMap_cons, List.filterMap_cons]
    cases e : vs[f k]? with
    | none =>
      have : ds[f k]? = none := by
        rw [List.getElem?_eq_none_iff] at e ⊢
        rw [← h.len]; exact e
      rw [this]
      exact rest
    | some v =>
      obtain ⟨d, e2, h2⟩ := h.get e
      rw [e2]
      exact .cons h2 rest
def wRevT (a : WE) : WE := fun ρ P => a ρ fun x => asTu x fun ds => ∀ es : List PyData, es.length ≤ ds.length → (∀ e ∈ es, e ∈ ds) → P (.d (.tuple es))
instance le_revF {t : TE} {a : WE} [ha : LB t a] : LE (tRevF t) (wRevT a) := ⟨fun hs hid own H σ ρ P Q r hw k => by
  refine ha.go hs hid own H σ ρ _ _ r hw fun sx x H1 hx e1 rx => ?_
  unfold asTu at hx
  split at hx
  · rename_i ds
    obtain ⟨p, vs, rfl, h1, t1⟩ := rx.tuple
    refine ⟨p, vs, rfl, .inr ⟨_, hide_ex _ _ h1.choose_spec.1⟩, fun f n hn => ?_⟩
    refine new_tup (fun p hp => (r.mono e1).notO hp) (t1.pick f (List.range n)) (hx _ ?_ fun e he => ?_) fun s v H' p e => k s v H' p (e1.trans e)
    · have := List.length_filterMap_le (fun j => ds[f j]?) (List.range n)
      rw [List.length_range] at this
      rw [← t1.len]
      exact Nat.le_trans this hn
    · obtain ⟨j, _, hj⟩ := List.mem_filterMap.mp he
      exact List.mem_of_getElem? hj
  · exact hx.elim⟩
/-- a def that shows data, by its name -/
def CalGd (P : Program) (w : World) (K : PySem.W.Frag) (mg : Str → Option Value) (base : Heap) (k : Nat) (x : Str) (ps : List Str) (sp : Sp) : Prop :=
  ∃ f fd, FnG P w K mg base k f fd ps sp ∧ mg x = some (.ref f) ∧ PySem.W.keepIn K (.ref f) = true ∧ Binds K fd ps []
theorem pe_calGd {X : Cx} {k : Nat} {x : Str} {ps : List Str} {sp : Sp} {e : Expr} {es : List Expr} {t : TA} {p pos : Pos} (O : CalGd X.prog X.w X.K X.mg X.base k x ps sp) (room : Room k X.A) (gd : X.A.guards = some []) (hg : Gl X x) (ha : PA X (e :: es) t)
    (d1 : (x == ("__debug__" : Str)) = false := by decide) (d3 : starEach (e :: es) X.env = (false, eval e X.env) :: starEach es X.env := by rfl) (d4 : (backTo pos (starEach es X.env)).any (·.1) = false := by rfl) : PE X (.Call (.Name x p) (e :: es) [] pos) (tCall sp [] E0 t) := by
  obtain ⟨f, fd, G, m, kp, b⟩ := O
  exact pe_callG G room gd hg m kp b ha d1 d3 d4
end Lr

namespace Lr
open PySem L2
/-! ### the facts of an own class as one answer -/
def clsB (K : PySem.W.Frag) (C : Addr) (fs : List Str) : Bool :=
  (((PySem.W.plainGet K C Str.empty && PySem.W.hasDictIn K C) && (PySem.W.plainOver K C && decide (PySem.W.findIn K (.ref C) "__setattr__" = some (some (.builtin "object.__setattr__"))))) &&
  (fs.all fun f => decide (PySem.W.findIn K (.ref C) f = some none))) &&
  (((decide (PySem.W.findIn K (.ref C) "__class__" = some (some (.builtin "object.__class__"))) && decide (PySem.W.specialIn K (.builtin "object.__class__") "__get__" = some (some (.builtin "getset_descriptor.__get__")))) &&
  (decide (PySem.W.takesIn K (.builtin "object.__class__") = some true) && decide (PySem.W.mroIn K C (.type "object") = some true))) &&
  ((decide (PySem.W.kitOne K (.ref C) (.ref C) = some true) && decide (PySem.W.kitOne K (.type "tuple") (.ref C) = some false)) && (PySem.W.notFirst K C (.type "tuple") && (PySem.W.makesIn K C && PySem.W.keepIn K (.ref C)))))
structure ClsOk (K : PySem.W.Frag) (C : Addr) (fs : List Str) : Prop where
  cl : Cls K C
  na : ∀ f ∈ fs, NoAttr K C f
  ins : C8.InsC K C
  nt : PySem.W.kitOne K (.type "tuple") (.ref C) = some false
  nf : PySem.W.notFirst K C (.type "tuple") = true
  mkI : PySem.W.makesIn K C = true
  kp : PySem.W.keepIn K (.ref C) = true
theorem clsB_ok {K : PySem.W.Frag} {C : Addr} {fs : List Str} (h : clsB K C fs = true) : ClsOk K C fs := by
  unfold clsB at h
  simp only [Bool.and_eq_true, decide_eq_true_eq] at h
  obtain ⟨⟨⟨⟨a1, a2⟩, a3, a4⟩, a5⟩, ⟨⟨b1, b2⟩, b3, b4⟩, ⟨c1, c2⟩, c3, c4, c5⟩ := h
  have cl : Cls K C := ⟨a1, a2, a3, a4⟩
  exact ⟨cl, fun f hf => show PySem.W.findIn K (.ref C) f = some none from of_decide_eq_true (List.all_eq_true.mp a5 f hf), ⟨cl, b1, b2, b3, b4, c1⟩, c2, c3, c4, c5⟩
def propB (K : PySem.W.Frag) (p : Addr) : Bool := decide (PySem.W.specialIn K (.ref p) "__get__" = some (some (.builtin "property.__get__"))) && decide (PySem.W.takesIn K (.ref p) = some true)
theorem propB_ok {K : PySem.W.Frag} {C p g : Addr} {f : Str} {rest : List Value} (h : propB K p = true) (a : PySem.W.findIn K (.ref C) f = some (some (.ref p))) (r : PySem.W.recIn K p "property" = some (.ref g :: rest)) : PropOf K C f p g := by
  obtain ⟨h1, h2⟩ := Bool.and_eq_true_iff.mp h
  exact ⟨a, of_decide_eq_true h1, of_decide_eq_true h2, rest, r⟩
theorem raw_of {P : Program} {w : World} {K : PySem.W.Frag} {mg : Str → Option Value} {base : Heap} {CX : CXT} {k : Nat} {f : Addr} {fd : FuncData} {ps : List Str} {sp : Sp} (F : FnOk P w K mg base CX k f fd ps sp) (hb : Binds K fd ps []) : FnR P w K mg base CX k f sp := (F.raw hb .nil).imp fun vs H Q E h => by rw [List.append_nil]; exact h
theorem isFn_of {K : PySem.W.Frag} {f : Addr} (h : PySem.W.typeIn K (.ref f) = some (.type "function")) : PySem.W.isFn K (.ref f) = true := by
  unfold PySem.W.isFn
  rw [h]
  rfl
theorem fnIn_of {K : PySem.W.Frag} {f : Addr} {oc : Value} {od : Option Addr} {fd : FuncData} {sl : Array (Option Value)} (h : K.lookup f = some ⟨oc, od, .func fd, sl⟩) : PySem.W.fnIn K f = true := by
  unfold PySem.W.fnIn
  rw [h]
end Lr

namespace Lr
open PySem L2
/-! ### the purse: a list [list of ints, int, int] that only the drawing def opens -/
def PurseV (d : Addr) (m t : Int) : List V := [.ref d, .int m, .int t]
def PileOk (ds : List Int) : Prop := (∀ x ∈ ds, 0 ≤ x) ∧ ds.length ≤ 63
def MixOk (m : Int) : Prop := 0 ≤ m ∧ m < 1152921504606846883
section
variable (P : Program) (w : World)
def phiP (c d : Addr) : Heap → Prop := fun h => ∃ m t : Int, MixOk m ∧ ObjOk P w H0 h c (.lst (PurseV d m t))
def phiQ (d : Addr) : Heap → Prop := fun h => ∃ ds : List Int, PileOk ds ∧ ObjOk P w H0 h d (.lst (ds.map V.int))
/-- a purse stands at c -/
def Purse (H : Hp) (c : Addr) : Prop := ∃ d, H c = some (.ext (phiP P w c d)) ∧ H d = some (.ext (phiQ P w d)) ∧ d ≠ c
end
section
variable {P : Program} {w : World} {H H' : Hp} {c d : Addr}
theorem Purse.mono (h : Purse P w H c) (e : Ex H H') : Purse P w H' c := by
  obtain ⟨d, h1, h2, h3⟩ := h
  exact ⟨d, e _ _ h1, e _ _ h2, h3⟩
theorem stayP {h1 h2 : Heap} (x : phiP P w c d h1) (k : ∀ o, h1.get? c = some o → h2.get? c = some o) : phiP P w c d h2 := by
  obtain ⟨m, t, g, x⟩ := x
  refine ⟨m, t, g, ObjOk.stay x (fun b u hb e => ?_) (fun _ q => nomatch q) fun _ _ q => nomatch q⟩
  rcases hb with rfl | q
  · exact k u e
  · cases q
theorem stayQ {h1 h2 : Heap} (x : phiQ P w d h1) (k : ∀ o, h1.get? d = some o → h2.get? d = some o) : phiQ P w d h2 := by
  obtain ⟨ds, g, x⟩ := x
  refine ⟨ds, g, ObjOk.stay x (fun b u hb e => ?_) (fun _ q => nomatch q) fun _ _ q => nomatch q⟩
  rcases hb with rfl | q
  · exact k u e
  · cases q
end
section
variable {X : Cx} {pins : List (Addr × Obj)} {σ : L2.St} {H : Hp} {s : Shared} {c d : Addr}
theorem openedP (I : Inv X pins σ H s) (h1 : H c = some (.ext (phiP X.prog X.w c d))) (h2 : H d = some (.ext (phiQ X.prog X.w d))) (hcd : d ≠ c) :
    ∃ m t ds, MixOk m ∧ PileOk ds ∧ Inv X pins σ (upd (upd H c (.lst (PurseV d m t))) d (.lst (ds.map V.int))) s := by
  obtain ⟨⟨m, t, g1, x1⟩, th1, _⟩ := I.hok c _ h1
  obtain ⟨⟨ds, g2, x2⟩, th2, _⟩ := I.hok d _ h2
  have I1 := reword (o' := .lst (PurseV d m t)) I h1 trivial x1 th1
  have h3 : upd H c (.lst (PurseV d m t)) d = some (.ext (phiQ X.prog X.w d)) := by rw [upd_ne hcd]; exact h2
  exact ⟨m, t, ds, g1, g2, reword (o' := .lst (ds.map V.int)) I1 h3 trivial x2 th2⟩
theorem closedP {m t : Int} {ds : List Int} (I : Inv X pins σ H s) (h1 : H c = some (.lst (PurseV d m t))) (h2 : H d = some (.lst (ds.map V.int))) (g1 : MixOk m) (g2 : PileOk ds) (hcd : d ≠ c) :
    Inv X pins σ (upd (upd H c (.ext (phiP X.prog X.w c d))) d (.ext (phiQ X.prog X.w d))) s := by
  have x1 : ObjOk X.prog X.w H0 s.heap c (.lst (PurseV d m t)) := I.hok c _ h1
  have x2 : ObjOk X.prog X.w H0 s.heap d (.lst (ds.map V.int)) := I.hok d _ h2
  have I1 := reword (o' := .ext (phiP X.prog X.w c d)) I h1 trivial ⟨⟨m, t, g1, x1⟩, there_lst x1, fun _ _ p k => stayP p k⟩ (there_lst x1)
  have h3 : upd H c (.ext (phiP X.prog X.w c d)) d = some (.lst (ds.map V.int)) := by rw [upd_ne hcd]; exact h2
  exact reword (o' := .ext (phiQ X.prog X.w d)) I1 h3 trivial ⟨⟨ds, g2, x2⟩, there_lst x2, fun _ _ p k => stayQ p k⟩ (there_lst x2)
end
def tPurse (P : Program) (w : World) (t : TS) : TS := fun D σ H => ∃ c d, H c = some (.ext (phiP P w c d)) ∧ H d = some (.ext (phiQ P w d)) ∧ d ≠ c ∧
  ∀ m tm ds, MixOk m → PileOk ds → t ⟨fun _ _ => False, fun v H' => (∃ m' tm' ds', H' c = some (.lst (PurseV d m' tm')) ∧ H' d = some (.lst (ds'.map V.int)) ∧ MixOk m' ∧ PileOk ds' ∧
    D.rt v (upd (upd H' c (.ext (phiP P w c d))) d (.ext (phiQ P w d)))), fun _ _ => False, fun _ _ => False⟩ σ (upd (upd H c (.lst (PurseV d m tm))) d (.lst (ds.map V.int)))
theorem pss_purse {X : Cx} {st : List Stmt} {t : TS} (h : PSs X st t) : PSs X st (tPurse X.prog X.w t) := by
  refine ⟨fun pins s σ H D I hw => ?_⟩
  obtain ⟨c, d, h1, h2, hcd, hw⟩ := hw
  obtain ⟨m, tm, ds, g1, g2, I1⟩ := openedP I h1 h2 hcd
  refine thn (h.run pins s σ _ _ I1 (hw m tm ds g1 g2)) fun f s1 q => ?_
  cases f with
  | next => obtain ⟨_, _, _, z⟩ := q; exact z.elim
  | brk => obtain ⟨_, _, _, z⟩ := q; exact z.elim
  | cont => obtain ⟨_, _, _, z⟩ := q; exact z.elim
  | ret v =>
    obtain ⟨x, σ', H', I2, r, m', tm', ds', e1, e2, g1', g2', z⟩ := q
    exact ⟨x, σ', _, closedP I2 e1 e2 g1' g2' hcd, r, z⟩
def purM (P : Program) (w : World) : Mo := ⟨fun H v => ∃ c, v = .ref c ∧ Purse P w H c, fun e h => by obtain ⟨c, h1, h2⟩ := h; exact ⟨c, h1, h2.mono e⟩⟩
end Lr

namespace Lr
open PySem L2 PySem.Spec PyProof.Rows
/-! ### a drawer that counts its draws: all stays but its own cell -/
structure Dw where
  c : Addr
  In : Addr → Prop
  cIn : In c
  At : Hp → Nat → Prop
  occ : ∀ {H : Hp} {n : Nat} {a : Addr}, In a → At H n → H a ≠ none
  keep : ∀ {H H' : Hp} {n : Nat}, (∀ a o, In a → H a = some o → H' a = some o) → At H n → At H' n
theorem Dw.mono (D : Dw) {H H' : Hp} {n : Nat} (e : Ex H H') (h : D.At H n) : D.At H' n := D.keep (fun a o _ q => e a o q) h
abbrev Eo (c : Addr) (H H' : Hp) : Prop := Ex (hide (fun a => a = c) H) H'
section
variable {c : Addr} {H H1 H2 : Hp} {hid : Addr → Prop} {own : Ix → Option Addr}
theorem Eo.refl : Eo c H H := hide_ex
theorem Eo.of (e : Ex H H1) : Eo c H H1 := hide_ex.trans e
theorem Eo.at' (e : Eo c H H1) {a : Addr} {o : HO} (n : a ≠ c) (h : H a = some o) : H1 a = some o := e a o ((hide_of (O := fun b => b = c) n).trans h)
theorem Eo.trans (e : Eo c H H1) (f : Eo c H1 H2) : Eo c H H2 := fun a o h => by
  obtain ⟨n, h⟩ := hide_some h
  exact f.at' n (e.at' n h)
theorem Eo.bh (e : Eo c H H1) (hc : hid c) : Ex (Bh hid own H) (Bh hid own H1) := fun a o h => by
  obtain ⟨n, h⟩ := hide_some h
  exact (hide_of n).trans (e.at' (fun z => n (.inl (z ▸ hc))) h)
theorem Eo.bhx (e : Eo c H H1) (hc : hid c) : Ex (Bh hid own H) H1 := fun a o h => by
  obtain ⟨n, h⟩ := hide_some h
  exact e.at' (fun z => n (.inl (z ▸ hc))) h
theorem Eo.hd (e : Eo c H H1) (hc : hid c) : Ex (hide hid H) (hide hid H1) := fun a o h => by
  obtain ⟨n, h⟩ := hide_some h
  exact (hide_of n).trans (e.at' (fun z => n (z ▸ hc)) h)
end
structure Cn (D : Dw) (hs : Hp) (hid : Addr → Prop) (own : Ix → Option Addr) (H : Hp) (σ : L2.St) (ρ : Ro) (n : Nat) : Prop where
  rep : Rep hs hid own H σ ρ
  nc : hs D.c = none
  hin : ∀ a, D.In a → hid a
  st : D.At H n
section
variable {D : Dw} {hs hs' : Hp} {hid : Addr → Prop} {own : Ix → Option Addr} {H H' : Hp} {σ : L2.St} {ρ : Ro} {n n' : Nat} {v : V} {s : SV}
theorem Cn.hc (r : Cn D hs hid own H σ ρ n) : hid D.c := r.hin _ D.cIn
theorem Cn.ownNe (r : Cn D hs hid own H σ ρ n) {x : Ix} {a : Addr} (h : own x = some a) : a ≠ D.c := fun z => (r.rep.new x a h).2 (z ▸ r.hc)
theorem Cn.step (r : Cn D hs hid own H σ ρ n) (e : Eo D.c H H') (h : D.At H' n') : Cn D hs hid own H' σ ρ n' := by
  refine ⟨⟨fun a o q => ?_, fun a q => ?_, r.rep.new, r.rep.inj, r.rep.len, fun i s q => ?_⟩, r.nc, r.hin, h⟩
  · have na : a ≠ D.c := fun z => by rw [z, r.nc] at q; cases q
    exact e.at' na (r.rep.ex a o q)
  · by_cases na : a = D.c
    · rw [na]; exact D.occ D.cIn h
    · cases w : H a with
      | none => exact absurd w (r.rep.occ a q)
      | some o => rw [e.at' na w]; exact fun z => nomatch z
  · obtain ⟨v, h1, h2⟩ := r.rep.get i s q
    refine ⟨v, h1, h2.lift (fun x a _ ha => ⟨ha, ?_⟩) (e.bh r.hc)⟩
    cases w : H a with
    | none => exact absurd w (r.rep.occ a (.inr ⟨x, ha⟩))
    | some o => exact e.at' (r.ownNe ha) w
theorem Cn.mono (r : Cn D hs hid own H σ ρ n) (e : Ex H H') : Cn D hs hid own H' σ ρ n := ⟨r.rep.mono e, r.nc, r.hin, D.mono e r.st⟩
theorem Cn.rb (r : Cn D hs hid own H σ ρ n) (e : Eo D.c H H') (h : Rb hid own H v s) : Rb hid own H' v s := by
  rcases h with h | ⟨ds, x, e1, a, vs, h1, h2, h3, h4⟩
  · exact .inl (h.mono (e.bh r.hc))
  · exact .inr ⟨ds, x, e1, a, vs, h1, h2, e.at' (r.ownNe h1) h3, h4.mono (e.bh r.hc)⟩
theorem Cn.ownx (r : Cn D hs hid own H σ ρ n) (e : Eo D.c H H') {x : Ix} {ds : List PyData} (h : OwnX hid own H x v ds) : OwnX hid own H' x v ds := by
  obtain ⟨a, vs, h1, h2, h3, h4⟩ := h
  exact ⟨a, vs, h1, h2, e.at' (r.ownNe h1) h3, h4.mono (e.bh r.hc)⟩
theorem ReAll.step {vs : List V} {ss : List SV} (e : Eo D.c H H') (hc : hid D.c) (h : ReAll (Bh hid own H) vs ss) : ReAll (Bh hid own H') vs ss := h.mono (e.bh hc)
theorem Cn.rball (r : Cn D hs hid own H σ ρ n) (e : Eo D.c H H') : ∀ {vs : List V} {ss : List SV}, RbAll hid own H vs ss → RbAll hid own H' vs ss
  | _, _, .nil => .nil
  | _, _, .cons a t => .cons (r.rb e a) (r.rball e t)
theorem RbAll.of : ∀ {vs : List V} {ss : List SV}, ReAll (Bh hid own H) vs ss → RbAll hid own H vs ss
  | _, _, .nil => .nil
  | _, _, .cons a t => .cons (.inl a) (RbAll.of t)
theorem Cn.set (r : Cn D hs hid own H σ ρ n) {own' : Ix → Option Addr} {σ' : L2.St} {ρ' : Ro} {H2 : Hp} (h : Rep hs hid own' H2 σ' ρ') (a : D.At H2 n') : Cn D hs hid own' H2 σ' ρ' n' := ⟨h, r.nc, r.hin, a⟩
end
abbrev WEn := Nat → Ro → (Nat → SV → Prop) → Prop
abbrev WTn := Nat → Ro → (Nat → Bool → Prop) → Prop
abbrev WAn := Nat → Ro → (Nat → List SV → Prop) → Prop
abbrev WIn := Nat → Ro → (Nat → List SV → Prop) → Prop
class LEn (D : Dw) (t : TE) (w : outParam WEn) : Prop where
  go : ∀ hs hid own H σ ρ n (P : Nat → SV → Prop) (Q : VK), Cn D hs hid own H σ ρ n → w n ρ P → (∀ n' s v H', P n' s → Cn D hs hid own H' σ ρ n' → Eo D.c H H' → Re (Bh hid own H') v s → Q v H') → t σ H Q
class LBn (D : Dw) (t : TE) (w : outParam WEn) : Prop where
  go : ∀ hs hid own H σ ρ n (P : Nat → SV → Prop) (Q : VK), Cn D hs hid own H σ ρ n → w n ρ P → (∀ n' s v H', P n' s → Cn D hs hid own H' σ ρ n' → Eo D.c H H' → Rb hid own H' v s → Q v H') → t σ H Q
class LTn (D : Dw) (t : TT) (w : outParam WTn) : Prop where
  go : ∀ hs hid own H σ ρ n (P : Nat → Bool → Prop) (Q : Bool → Hp → Prop), Cn D hs hid own H σ ρ n → w n ρ P → (∀ n' b H', P n' b → Cn D hs hid own H' σ ρ n' → Eo D.c H H' → Q b H') → t σ H Q
class LAn (D : Dw) (t : TA) (w : outParam WAn) : Prop where
  go : ∀ hs hid own H σ ρ n (P : Nat → List SV → Prop) (Q : List V → Hp → Prop), Cn D hs hid own H σ ρ n → w n ρ P → (∀ n' ss vs H', P n' ss → Cn D hs hid own H' σ ρ n' → Eo D.c H H' → ReAll (Bh hid own H') vs ss → Q vs H') → t σ H Q
class LABn (D : Dw) (t : TA) (w : outParam WAn) : Prop where
  go : ∀ hs hid own H σ ρ n (P : Nat → List SV → Prop) (Q : List V → Hp → Prop), Cn D hs hid own H σ ρ n → w n ρ P → (∀ n' ss vs H', P n' ss → Cn D hs hid own H' σ ρ n' → Eo D.c H H' → RbAll hid own H' vs ss → Q vs H') → t σ H Q
class LIn (D : Dw) (wi : TI) (w : outParam WIn) : Prop where
  go : ∀ hs hid own H σ ρ n (P : Nat → List SV → Prop) (R : It → Hp → Prop), Cn D hs hid own H σ ρ n → w n ρ P → (∀ n' xs J H', P n' xs → Cn D hs hid own H' σ ρ n' → Eo D.c H H' → ItOk (Bh hid own H') (Bh hid own H') J xs → R J H') → wi σ H R
/-! what draws, and what does not -/
def spC (F : Dw → Prop) (k : Nat) (R : Addr → Nat → List SV → (Nat → SV → Prop) → Prop) : Sp := fun vs H Q _ => ∃ D hid n ss P, F D ∧ ss.length = k ∧ (∀ a, hid a → H a ≠ none) ∧ (∀ a, D.In a → hid a) ∧ D.At H n ∧ ReAll (hide hid H) vs ss ∧ R D.c n ss P ∧ ∀ n' s v H', P n' s → Eo D.c H H' → D.At H' n' → Re (hide hid H') v s → Q v H'
class Draws {α : Type _} (t : α) : Prop where
  out : True
section
variable {r : R2} {a b c : TE} {t u : TT} {x y : TA} {wi : TI} {g : TG} {o o2 : TO} {s s2 : TS}
instance dr_call {F : Dw → Prop} {k : Nat} {R : Addr → Nat → List SV → (Nat → SV → Prop) → Prop} {E : XK} : Draws (tCall (spC F k R) [] E x) := ⟨trivial⟩
instance dr_op1 [Draws a] : Draws (tOp r a b) := ⟨trivial⟩
instance dr_op2 [Draws b] : Draws (tOp r a b) := ⟨trivial⟩
instance dr_un {r : V → Hp → VK → Prop} [Draws a] : Draws (tUn r a) := ⟨trivial⟩
instance dr_cons1 [Draws a] : Draws (tCons a x) := ⟨trivial⟩
instance dr_cons2 [Draws x] : Draws (tCons a x) := ⟨trivial⟩
instance dr_tup [Draws x] : Draws (tTupF x) := ⟨trivial⟩
instance dr_lst [Draws x] : Draws (tLst x) := ⟨trivial⟩
instance dr_cb {r : List V → Hp → VK → Prop} [Draws x] : Draws (tCB r x) := ⟨trivial⟩
instance dr_tB [Draws a] : Draws (tB a) := ⟨trivial⟩
instance dr_test [Draws a] : Draws (tTest a) := ⟨trivial⟩
instance dr_and1 [Draws t] : Draws (tAnd t u) := ⟨trivial⟩
instance dr_and2 [Draws u] : Draws (tAnd t u) := ⟨trivial⟩
instance dr_or1 [Draws t] : Draws (tOr t u) := ⟨trivial⟩
instance dr_or2 [Draws u] : Draws (tOr t u) := ⟨trivial⟩
instance dr_not [Draws t] : Draws (tNot t) := ⟨trivial⟩
instance dr_if1 [Draws t] : Draws (tIf t a b) := ⟨trivial⟩
instance dr_if2 [Draws a] : Draws (tIf t a b) := ⟨trivial⟩
instance dr_if3 [Draws b] : Draws (tIf t a b) := ⟨trivial⟩
instance dr_part [Draws a] : Draws (tPart a) := ⟨trivial⟩
instance dr_sl1 {r : V → Option Int → Option Int → Hp → VK → Prop} [Draws a] : Draws (tSl r a o o2) := ⟨trivial⟩
instance dr_sl2 {r : V → Option Int → Option Int → Hp → VK → Prop} [Draws o] : Draws (tSl r a o o2) := ⟨trivial⟩
instance dr_sl3 {r : V → Option Int → Option Int → Hp → VK → Prop} [Draws o2] : Draws (tSl r a o o2) := ⟨trivial⟩
instance dr_any {K : PySem.W.Frag} [Draws a] : Draws (iAny K a) := ⟨trivial⟩
instance dr_rng1 [Draws x] : Draws (iRng1 x) := ⟨trivial⟩
instance dr_rng2 [Draws x] : Draws (iRng2 x) := ⟨trivial⟩
instance dr_lc1 {vs : List Nat} [Draws wi] : Draws (tLc wi g t a vs) := ⟨trivial⟩
instance dr_lc2 {vs : List Nat} [Draws t] : Draws (tLc wi g t a vs) := ⟨trivial⟩
instance dr_lc3 {vs : List Nat} [Draws a] : Draws (tLc wi g t a vs) := ⟨trivial⟩
instance dr_seq1 [Draws s] : Draws (tSeq s s2) := ⟨trivial⟩
instance dr_seq2 [Draws s2] : Draws (tSeq s s2) := ⟨trivial⟩
instance dr_asg [Draws a] : Draws (tAsg a g) := ⟨trivial⟩
instance dr_put [Draws b] {q : V → V → V → Hp → (Hp → Prop) → Prop} : Draws (tAsg a (gSub c b q)) := ⟨trivial⟩
instance dr_own {i : Nat} [Draws a] : Draws (tOwn i a) := ⟨trivial⟩
instance dr_rel {i : Nat} [Draws s] : Draws (tRel i s) := ⟨trivial⟩
instance dr_ifs1 [Draws t] : Draws (tIfS t s s2) := ⟨trivial⟩
instance dr_ifs2 [Draws s] : Draws (tIfS t s s2) := ⟨trivial⟩
instance dr_ifs3 [Draws s2] : Draws (tIfS t s s2) := ⟨trivial⟩
instance dr_for1 [Draws wi] : Draws (tFor wi g s) := ⟨trivial⟩
instance dr_for2 [Draws s] : Draws (tFor wi g s) := ⟨trivial⟩
instance dr_wh1 [Draws t] : Draws (tWhile t s) := ⟨trivial⟩
instance dr_wh2 [Draws s] : Draws (tWhile t s) := ⟨trivial⟩
instance dr_ret [Draws a] : Draws (tRet a) := ⟨trivial⟩
instance dr_drop [Draws a] : Draws (tDrop a) := ⟨trivial⟩
instance dr_bm {K : PySem.W.Frag} {n : String} {q : V → List V → Hp → VK → Prop} [Draws x] : Draws (tBM K n q a x) := ⟨trivial⟩
instance dr_par {i j : Nat} [Draws x] : Draws (tPar i j x) := ⟨trivial⟩
instance dr_par3 {i j l : Nat} [Draws x] : Draws (tPar3 i j l x) := ⟨trivial⟩
end
def nE (w : WE) : WEn := fun n ρ P => w ρ (P n)
def nT (w : WT) : WTn := fun n ρ P => w ρ (P n)
def nA (w : WA) : WAn := fun n ρ P => w ρ (P n)
def nI (w : WI) : WIn := fun n ρ P => w ρ (P n)
section
variable {D : Dw}
instance (priority := 3000) len_of {t : TE} {w : WE} [h : LE t w] : LEn D t (nE w) := ⟨fun hs hid own H σ ρ n P Q r hw k => h.go hs hid own H σ ρ (P n) Q r.rep hw fun s v H' p e q => k n s v H' p (r.mono e) (.of e) q⟩
instance (priority := 3000) lbn_of {t : TE} {w : WE} [h : LB t w] : LBn D t (nE w) := ⟨fun hs hid own H σ ρ n P Q r hw k => h.go hs hid own H σ ρ (P n) Q r.rep hw fun s v H' p e q => k n s v H' p (r.mono e) (.of e) q⟩
instance (priority := 3000) ltn_of {t : TT} {w : WT} [h : LT t w] : LTn D t (nT w) := ⟨fun hs hid own H σ ρ n P Q r hw k => h.go hs hid own H σ ρ (P n) Q r.rep hw fun b H' p e => k n b H' p (r.mono e) (.of e)⟩
instance (priority := 3000) lan_of {t : TA} {w : WA} [h : LA t w] : LAn D t (nA w) := ⟨fun hs hid own H σ ρ n P Q r hw k => h.go hs hid own H σ ρ (P n) Q r.rep hw fun ss vs H' p e q => k n ss vs H' p (r.mono e) (.of e) q⟩
instance (priority := 3000) labn_of {t : TA} {w : WA} [h : LAB t w] : LABn D t (nA w) := ⟨fun hs hid own H σ ρ n P Q r hw k => h.go hs hid own H σ ρ (P n) Q r.rep hw fun ss vs H' p e q => k n ss vs H' p (r.mono e) (.of e) q⟩
instance (priority := 3000) lin_of {t : TI} {w : WI} [h : LI t w] : LIn D t (nI w) := ⟨fun hs hid own H σ ρ n P R r hw k => h.go hs hid own H σ ρ (P n) R r.rep hw fun xs J H' p e q => k n xs J H' p (r.mono e) (.of e) q⟩
instance (priority := 4000) len_lbn {t : TE} {w : WEn} [Draws t] [h : LEn D t w] : LBn D t w := ⟨fun hs hid own H σ ρ n P Q r hw k => h.go hs hid own H σ ρ n P Q r hw fun n' s v H' p c e q => k n' s v H' p c e (.inl q)⟩
/-! expressions -/
def nOp (f : W2) (wa wb : WEn) : WEn := fun n ρ P => wa n ρ fun n1 x => wb n1 ρ fun n2 y => f x y (P n2)
instance (priority := 4000) len_op {r : R2} {f : W2} {ta tb : TE} {wa wb : WEn} [Draws (tOp r ta tb)] [d : DO r f] [a : LBn D ta wa] [b : LBn D tb wb] : LEn D (tOp r ta tb) (nOp f wa wb) := ⟨fun hs hid own H σ ρ n P Q r hw k => by
  refine a.go hs hid own H σ ρ n _ _ r hw fun n1 sx x H1 hx c1 e1 rx => ?_
  refine b.go hs hid own H1 σ ρ n1 _ _ c1 hx fun n2 sy y H2 hy c2 e2 ry => ?_
  exact d.go hid own H2 x y sx sy (P n2) Q (fun p hp => c2.rep.notO hp) (c1.rb e2 rx) ry hy fun s v H' p e q => k n2 s v H' p (c2.mono e) ((e1.trans e2).trans (.of e)) q⟩
def nUn (f : W1) (wa : WEn) : WEn := fun n ρ P => wa n ρ fun n1 x => f x (P n1)
instance (priority := 4000) len_un {r : V → Hp → VK → Prop} {f : W1} {ta : TE} {wa : WEn} [Draws (tUn r ta)] [d : DU r f] [a : LBn D ta wa] : LEn D (tUn r ta) (nUn f wa) := ⟨fun hs hid own H σ ρ n P Q r hw k => by
  refine a.go hs hid own H σ ρ n _ _ r hw fun n1 sx x H1 hx c1 e1 rx => ?_
  exact d.go hid own H1 x sx (P n1) Q (fun p hp => c1.rep.notO hp) rx hx fun s v H' p e q => k n1 s v H' p (c1.mono e) (e1.trans (.of e)) q⟩
def nCons (a : WEn) (r : WAn) : WAn := fun n ρ P => a n ρ fun n1 x => r n1 ρ fun n2 xs => P n2 (x :: xs)
instance (priority := 4000) lan_cons {t : TE} {u : TA} {a : WEn} {b : WAn} [Draws (tCons t u)] [ha : LEn D t a] [hb : LAn D u b] : LAn D (tCons t u) (nCons a b) := ⟨fun hs hid own H σ ρ n P Q r hw k => by
  refine ha.go hs hid own H σ ρ n _ _ r hw fun n1 s v H1 p1 c1 e1 q1 => ?_
  exact hb.go hs hid own H1 σ ρ n1 _ _ c1 p1 fun n2 ss vs H2 p2 c2 e2 q2 => k n2 _ _ H2 p2 c2 (e1.trans e2) (.cons (q1.mono (e2.bh r.hc)) q2)⟩
instance (priority := 4000) labn_cons {t : TE} {u : TA} {a : WEn} {b : WAn} [Draws (tCons t u)] [ha : LBn D t a] [hb : LABn D u b] : LABn D (tCons t u) (nCons a b) := ⟨fun hs hid own H σ ρ n P Q r hw k => by
  refine ha.go hs hid own H σ ρ n _ _ r hw fun n1 s v H1 p1 c1 e1 q1 => ?_
  exact hb.go hs hid own H1 σ ρ n1 _ _ c1 p1 fun n2 ss vs H2 p2 c2 e2 q2 => k n2 _ _ H2 p2 c2 (e1.trans e2) (.cons (c1.rb e2 q1) q2)⟩
def nTup (a : WAn) : WEn := fun n ρ P => a n ρ fun n1 ss => asDs ss fun ds => ds.length ≤ 100000 ∧ P n1 (.d (.tuple ds))
def nLst (a : WAn) : WEn := fun n ρ P => a n ρ fun n1 ss => asDs ss fun ds => ds.length ≤ 100000 ∧ P n1 (.d (.list ds))
instance (priority := 4000) len_tup {t : TA} {a : WAn} [Draws (tTupF t)] [ha : LAn D t a] : LEn D (tTupF t) (nTup a) := ⟨fun hs hid own H σ ρ n P Q r hw k => by
  refine ha.go hs hid own H σ ρ n _ _ r hw fun n1 ss vs H1 p1 c1 e1 q => ?_
  unfold asDs at p1
  split at p1
  · rename_i ds hd
    have t := q.dd hd
    exact ⟨by rw [t.len]; exact Evl.sz_of p1.1, new_tup (fun p hp => c1.rep.notO hp) t p1.2 fun s v H' p e q => k n1 s v H' p (c1.mono e) (e1.trans (.of e)) q⟩
  · exact p1.elim⟩
instance (priority := 4000) len_lst {t : TA} {a : WAn} [Draws (tLst t)] [ha : LAn D t a] : LEn D (tLst t) (nLst a) := ⟨fun hs hid own H σ ρ n P Q r hw k => by
  refine ha.go hs hid own H σ ρ n _ _ r hw fun n1 ss vs H1 p1 c1 e1 q => ?_
  unfold asDs at p1
  split at p1
  · rename_i ds hd
    have t := q.dd hd
    exact ⟨by rw [t.len]; exact Evl.sz_of p1.1, new_lst (fun p hp => c1.rep.notO hp) t p1.2 fun s v H' p e q => k n1 s v H' p (c1.mono e) (e1.trans (.of e)) q⟩
  · exact p1.elim⟩
def nCB (f : WC) (a : WAn) : WEn := fun n ρ P => a n ρ fun n1 ss => f ss (P n1)
instance (priority := 4000) len_cb {r : List V → Hp → VK → Prop} {f : WC} {t : TA} {a : WAn} [Draws (tCB r t)] [d : DC r f] [ha : LABn D t a] : LEn D (tCB r t) (nCB f a) := ⟨fun hs hid own H σ ρ n P Q r hw k => by
  refine ha.go hs hid own H σ ρ n _ _ r hw fun n1 ss vs H1 p1 c1 e1 q => ?_
  exact d.go hid own H1 vs ss (P n1) Q (fun p hp => c1.rep.notO hp) q p1 fun s v H' p e q => k n1 s v H' p (c1.mono e) (e1.trans (.of e)) q⟩
/-! tests -/
def nB (w : WEn) : WTn := fun n ρ P => w n ρ fun n1 x => asB x (P n1)
theorem ltn_any {t : TE} {w : WEn} [h : LEn D t w] {hs hid own H σ ρ n} {P : Nat → Bool → Prop} {Q : Bool → Hp → Prop} (r : Cn D hs hid own H σ ρ n) (hw : nB w n ρ P) (k : ∀ n' b H', P n' b → Cn D hs hid own H' σ ρ n' → Eo D.c H H' → Q b H') : t σ H fun x H1 => ∃ c, x = .bl c ∧ Q c H1 := by
  refine h.go hs hid own H σ ρ n _ _ r hw fun n1 s v H' p c e q => ?_
  unfold asB at p
  split at p
  · cases q
    exact ⟨_, rfl, k n1 _ H' p c e⟩
  · exact p.elim
instance (priority := 4000) ltn_B {t : TE} {w : WEn} [Draws (tB t)] [h : LEn D t w] : LTn D (tB t) (nB w) := ⟨fun hs hid own H σ ρ n P Q r hw k => ltn_any r hw k⟩
instance (priority := 4000) ltn_test {t : TE} {w : WEn} [Draws (tTest t)] [h : LEn D t w] : LTn D (tTest t) (nB w) := ⟨fun hs hid own H σ ρ n P Q r hw k => ltn_any r hw k⟩
def nAnd (a b : WTn) : WTn := fun n ρ P => a n ρ fun n1 c => if c = true then b n1 ρ P else P n1 false
def nOr (a b : WTn) : WTn := fun n ρ P => a n ρ fun n1 c => if c = true then P n1 true else b n1 ρ P
def nNot (a : WTn) : WTn := fun n ρ P => a n ρ fun n1 c => P n1 (!c)
instance (priority := 4000) ltn_and {t u : TT} {a b : WTn} [Draws (tAnd t u)] [ha : LTn D t a] [hb : LTn D u b] : LTn D (tAnd t u) (nAnd a b) := ⟨fun hs hid own H σ ρ n P Q r hw k => by
  refine ha.go hs hid own H σ ρ n _ _ r hw fun n1 c H' p c1 e => ?_
  cases c with
  | true => exact iteT (hb.go hs hid own H' σ ρ n1 P Q c1 (by simpa using p) fun n2 b H2 pb c2 e2 => k n2 b H2 pb c2 (e.trans e2))
  | false => exact iteF (k n1 _ H' (by simpa using p) c1 e)⟩
instance (priority := 4000) ltn_or {t u : TT} {a b : WTn} [Draws (tOr t u)] [ha : LTn D t a] [hb : LTn D u b] : LTn D (tOr t u) (nOr a b) := ⟨fun hs hid own H σ ρ n P Q r hw k => by
  refine ha.go hs hid own H σ ρ n _ _ r hw fun n1 c H' p c1 e => ?_
  cases c with
  | true => exact iteT (k n1 _ H' (by simpa using p) c1 e)
  | false => exact iteF (hb.go hs hid own H' σ ρ n1 P Q c1 (by simpa using p) fun n2 b H2 pb c2 e2 => k n2 b H2 pb c2 (e.trans e2))⟩
instance (priority := 4000) ltn_not {t : TT} {a : WTn} [Draws (tNot t)] [ha : LTn D t a] : LTn D (tNot t) (nNot a) := ⟨fun hs hid own H σ ρ n P Q r hw k => ha.go hs hid own H σ ρ n _ _ r hw fun n1 c H' p c1 e => k n1 _ H' p c1 e⟩
def nIf (c : WTn) (a b : WEn) : WEn := fun n ρ P => c n ρ fun n1 t => if t = true then a n1 ρ P else b n1 ρ P
instance (priority := 4000) len_if {c : TT} {t u : TE} {wc : WTn} {a b : WEn} [Draws (tIf c t u)] [hc : LTn D c wc] [ha : LEn D t a] [hb : LEn D u b] : LEn D (tIf c t u) (nIf wc a b) := ⟨fun hs hid own H σ ρ n P Q r hw k => by
  refine hc.go hs hid own H σ ρ n _ _ r hw fun n1 c H' p c1 e => ?_
  cases c with
  | true => exact iteT (ha.go hs hid own H' σ ρ n1 P Q c1 (by simpa using p) fun n2 s v H2 pb c2 e2 => k n2 s v H2 pb c2 (e.trans e2))
  | false => exact iteF (hb.go hs hid own H' σ ρ n1 P Q c1 (by simpa using p) fun n2 s v H2 pb c2 e2 => k n2 s v H2 pb c2 (e.trans e2))⟩
/-! slices -/
abbrev WOn := Nat → Ro → (Nat → Option Int → Prop) → Prop
class LOn (D : Dw) (t : TO) (w : outParam WOn) : Prop where
  go : ∀ hs hid own H σ ρ n (P : Nat → Option Int → Prop) (Q : Option Int → Hp → Prop), Cn D hs hid own H σ ρ n → w n ρ P → (∀ n' o H', P n' o → Cn D hs hid own H' σ ρ n' → Eo D.c H H' → Q o H') → t σ H Q
def nO (w : WO) : WOn := fun n ρ P => w ρ (P n)
instance (priority := 3000) lon_of {t : TO} {w : WO} [h : LO t w] : LOn D t (nO w) := ⟨fun hs hid own H σ ρ n P Q r hw k => h.go hs hid own H σ ρ (P n) Q r.rep hw fun o H' p e => k n o H' p (r.mono e) (.of e)⟩
def nPart (a : WEn) : WOn := fun n ρ P => a n ρ fun n1 x => asI x fun i => P n1 (some i)
instance (priority := 4000) lon_part {t : TE} {a : WEn} [Draws (tPart t)] [ha : LEn D t a] : LOn D (tPart t) (nPart a) := ⟨fun hs hid own H σ ρ n P Q r hw k => by
  refine ha.go hs hid own H σ ρ n _ _ r hw fun n1 s v H1 p c1 e1 q => ?_
  unfold asI at p
  split at p
  · cases q
    exact ⟨_, rfl, k n1 _ H1 p c1 e1⟩
  · exact p.elim⟩
/-! walks -/
def nIt (a : WEn) : WIn := fun n ρ P => a n ρ fun n1 x => itD x (P n1)
instance (priority := 4000) lin_any {K : PySem.W.Frag} {t : TE} {a : WEn} [Draws (iAny K t)] [h : LEn D t a] : LIn D (iAny K t) (nIt a) := ⟨fun hs hid own H σ ρ n P R r hw k => by
  refine h.go hs hid own H σ ρ n _ _ r hw fun n1 s v H' p c1 e q => ?_
  unfold itD at p
  split at p
  · cases q with
    | lst h t => exact .inl ⟨_, rfl, ⟨_, SqL.of (hide_ex _ _ h)⟩, k n1 _ _ H' p c1 e (it_list h t)⟩
  · cases q with
    | tup h t => exact .inr (.inl ⟨_, rfl, ⟨_, (h.ex hide_ex).sq⟩, k n1 _ _ H' p c1 e (it_tup h t)⟩)
  · cases q
    exact .inr (.inr ⟨_, rfl, k n1 _ _ H' p c1 e (it_str _)⟩)
  · exact p.elim⟩
def nRng1 (a : WAn) : WIn := fun n ρ P => a n ρ fun n1 ss => asR1 ss (P n1)
def nRng2 (a : WAn) : WIn := fun n ρ P => a n ρ fun n1 ss => asR2 ss (P n1)
instance (priority := 4000) lin_rng1 {t : TA} {a : WAn} [Draws (iRng1 t)] [h : LABn D t a] : LIn D (iRng1 t) (nRng1 a) := ⟨fun hs hid own H σ ρ n P R r hw k => by
  refine h.go hs hid own H σ ρ n _ _ r hw fun n1 ss vs H' p c1 e q => ?_
  unfold asR1 at p
  split at p
  · obtain ⟨v, rfl, rv⟩ := rb1 q
    rw [rv.int]
    exact ⟨_, rfl, by omega, by omega, k n1 _ _ H' p.2.2 c1 e (it_rng 0 _)⟩
  · exact p.elim⟩
instance (priority := 4000) lin_rng2 {t : TA} {a : WAn} [Draws (iRng2 t)] [h : LABn D t a] : LIn D (iRng2 t) (nRng2 a) := ⟨fun hs hid own H σ ρ n P R r hw k => by
  refine h.go hs hid own H σ ρ n _ _ r hw fun n1 ss vs H' p c1 e q => ?_
  unfold asR2 at p
  split at p
  · obtain ⟨v, v2, rfl, rv, rv2⟩ := rb2 q
    rw [rv.int, rv2.int]
    exact ⟨_, _, rfl, ⟨by omega, by omega, by omega, by omega⟩, k n1 _ _ H' p.2.2.2.2 c1 e (it_rng _ _)⟩
  · exact p.elim⟩
end
end Lr

namespace Lr
open PySem L2 PySem.Spec PyProof.Rows
section
variable {D : Dw}
/-! ### comprehensions that draw -/
def nComp (g : WG) (c : WTn) (e : WEn) (ρ : Ro) : List SV → Nat → (Nat → List PyData → Prop) → Prop
  | [], n, P => P n []
  | x :: r, n, P => g x ρ fun ρ' => c n ρ' fun n1 b => if b = true then e n1 ρ' (fun n2 y => asDs [y] fun d => nComp g c e ρ r n2 fun m ys => P m (d ++ ys)) else nComp g c e ρ r n1 P
def nLc (i : WIn) (g : WG) (c : WTn) (e : WEn) (vs : List Nat) : WEn := fun n ρ P => i n ρ fun n1 xs => xs.length ≤ 100000 ∧ nComp g c e (wipeR ρ vs) xs n1 fun m ys => P m (.d (.list ys))
instance (priority := 4000) len_lc {wi : TI} {g : TG} {tt : TT} {te : TE} {vs js : List Nat} {i : WIn} {wg : WG} {c : WTn} {e : WEn} [Draws (tLc wi g tt te vs)] [hi : LIn D wi i] [hg : LG g js wg] [hc : LTn D tt c] [he : LEn D te e] [hv : SubL js vs] : LEn D (tLc wi g tt te vs) (nLc i wg c e vs) := ⟨fun hs hid own H σ ρ n0 P Q r hw k => by
  refine hi.go hs hid own H σ ρ n0 _ _ r hw fun n1 xs J H1 p c1 e1 hJ A hA => ?_
  obtain ⟨hlen, p⟩ := p
  have nA : ¬ Oo hid own A := c1.rep.notO hA
  have hcA : hid D.c := r.hc
  have cA : D.c ≠ A := fun z => nA (.inl (z ▸ hcA))
  let hid' : Addr → Prop := fun a => hid a ∨ a = A
  have ownA : ∀ j a, own j = some a → a ≠ A := fun j a h z => nA (.inr ⟨j, by rw [h, z]⟩)
  let Pd : Nat → List PyData → Prop := fun m ys => P m (.d (.list ys))
  refine ⟨fun n m H' => ∃ k acc ys, m = xs.length - n ∧ n ≤ xs.length ∧ Eo D.c H1 H' ∧ D.At H' k ∧ H' A = some (.lst acc) ∧ acc.length ≤ n ∧ DdAll (Bh hid' own H') acc ys ∧ nComp wg c e (wipeR ρ vs) (xs.drop n) k (fun m zs => Pd m (ys ++ zs)), ⟨xs.length, n1, [], [], rfl, Nat.zero_le _, .of (Evl.Ex.new hA), D.mono (Evl.Ex.new hA) c1.st, upd_same, Nat.le_refl _, .nil, by simpa using p⟩, ?_⟩
  rintro n m H' ⟨kk, acc, ys, rfl, hn, e2, hst, hacc, hal, hys, hp⟩
  have hBD : ∀ {G : Hp}, Ex (Bh hid' own G) (Bh hid own G) := hide_le oo_or
  have c2 := c1.step e2 hst
  by_cases hlt : n < xs.length
  · have hx : xs[n]? = some xs[n] := List.getElem?_eq_getElem hlt
    rw [List.drop_eq_getElem_cons hlt] at hp
    obtain ⟨hgo, hyld⟩ := hJ.step n _ H' (e2.bhx hcA) hx
    refine .inr ⟨hgo, fun G => ∃ k acc ys, Eo D.c H1 G ∧ D.At G k ∧ G A = some (.lst acc) ∧ acc.length ≤ n + 1 ∧ DdAll (Bh hid' own G) acc ys ∧ nComp wg c e (wipeR ρ vs) (xs.drop (n + 1)) k (fun m zs => Pd m (ys ++ zs)), ?_, ?_⟩
    · rintro G ⟨k, acc, ys, a1, a2, a3, a4, a5, a6⟩
      exact ⟨xs.length - (n + 1), by omega, k, acc, ys, rfl, hlt, a1, a2, a3, a4, a5, a6⟩
    · intro x H'' hy
      obtain ⟨rfl, hxs⟩ := hyld x H'' hy
      have hB : Ex (Bh hid own H1) (Bh hid' own H'') := fun a o h => by
        obtain ⟨h1, h2⟩ := hide_some h
        have na : a ≠ D.c := fun z => h1 (.inl (z ▸ hcA))
        refine (hide_of (fun z => ?_)).trans (e2.at' na h2)
        rcases z with (z | rfl) | z
        · exact h1 (.inl z)
        · rw [hA] at h2; cases h2
        · exact h1 (.inr z)
      have rp : Rep hs hid' own H'' (wipe σ vs) (wipeR ρ vs) := by
        have r1 := c1.rep.wipe vs
        have r2 := c2.rep.wipe vs
        refine ⟨r2.ex, fun a h => ?_, fun j a h => ⟨(r2.new j a h).1, ?_⟩, r2.inj, r2.len, fun j s h => ?_⟩
        · rcases h with (h | rfl) | h
          · exact r2.occ a (.inl h)
          · rw [hacc]; exact fun z => nomatch z
          · exact r2.occ a (.inr h)
        · rintro (z | z)
          · exact (r2.new j a h).2 z
          · exact ownA j a h z
        · obtain ⟨v, h1, h2⟩ := r1.get j s h
          refine ⟨v, h1, ?_⟩
          refine h2.lift (fun x a _ ha => ⟨ha, ?_⟩) hB
          cases w : H1 a with
          | none => exact absurd w (r1.occ a (.inr ⟨x, ha⟩))
          | some o => exact e2.at' (c1.ownNe ha) w
      have cp : Cn D hs hid' own H'' (wipe σ vs) (wipeR ρ vs) kk := ⟨rp, r.nc, fun a h => .inl (r.hin a h), hst⟩
      refine hg.go hs hid' own H'' _ _ _ _ _ _ rp (hxs.mono hB) hp fun σ2 ρ2 p2 r2 o2 => ⟨(o2 vs hv.out).trans (wipe_wipe σ vs), ?_⟩
      refine hc.go hs hid' own H'' σ2 ρ2 kk _ _ (cp.set r2 hst) p2 fun n3 b H3 p3 c3 e3 => ?_
      have acc3 : H3 A = some (.lst acc) := e3.at' cA.symm hacc
      cases b with
      | false => exact iteF ⟨n3, acc, ys, e2.trans e3, c3.st, acc3, by omega, hys.mono (e3.bh (.inl hcA)), by simpa using p3⟩
      | true =>
        refine iteT (he.go hs hid' own H3 σ2 ρ2 n3 _ _ c3 (by simpa using p3) fun n4 s y H4 p4 c4 e4 q4 => ?_)
        have e34 := e3.trans e4
        have hacc4 := e4.at' cA.symm acc3
        unfold asDs at p4
        split at p4
        · rename_i ds hds
          have hd1 : DdAll (Bh hid' own H4) [y] ds := ReAll.dd (.cons q4 .nil) hds
          have hup : Ex (Bh hid' own H4) (Bh hid' own (upd H4 A (.lst (acc ++ [y])))) := hide_upd (.inl (.inr rfl))
          refine ⟨acc, hacc4, Evl.sz_lt (by omega), n4, acc ++ [y], ys ++ ds, ?_, ?_, upd_same, by simp; omega, ((hys.mono (e34.bh (.inl hcA))).app hd1).mono hup, ?_⟩
          · intro a o h
            obtain ⟨na, h⟩ := hide_some h
            have ne : a ≠ A := fun z => by rw [z, hA] at h; cases h
            rw [upd_ne ne]
            exact (e2.trans e34).at' na h
          · refine D.keep (fun a o ia h => ?_) c4.st
            have ne : a ≠ A := fun z => nA (.inl (z ▸ r.hin a ia))
            rw [upd_ne ne]
            exact h
          · simpa using p4
        · exact p4.elim
  · have hn2 : n = xs.length := by omega
    subst hn2
    rw [List.drop_of_length_le (Nat.le_refl _)] at hp
    have hp2 : Pd kk ys := by simpa [nComp] using hp
    refine .inl ⟨hJ.stop H' (e2.bhx hcA), k kk _ _ H' hp2 c2 (e1.trans e2) (.lst ((hide_of (fun z => nA z)).trans hacc) (hys.mono hBD))⟩⟩
end
/-! ### defs that draw -/
abbrev RC := Addr → Nat → List SV → (Nat → SV → Prop) → Prop
class IsFam (F : Dw → Prop) (D : Dw) : Prop where
  out : F D
def nCall (c : Addr) (k : Nat) (R : RC) (a : WAn) : WEn := fun n ρ P => a n ρ fun n1 ss => ss.length = k ∧ R c n1 ss P
instance (priority := 4000) len_call {D : Dw} {F : Dw → Prop} [hF : IsFam F D] {k : Nat} {R : RC} {t : TA} {a : WAn} [ha : LAn D t a] : LEn D (tCall (spC F k R) [] E0 t) (nCall D.c k R a) := ⟨fun hs hid own H σ ρ n P Q r hw k => by
  refine ha.go hs hid own H σ ρ n _ _ r hw fun n1 ss vs H1 p c1 e1 q => ?_
  rw [List.append_nil]
  exact ⟨D, Oo hid own, n1, ss, P, hF.out, p.1, c1.rep.occ, fun a h => .inl (r.hin a h), c1.st, q, p.2, fun n' s v H' p e st q => k n' s v H' p (c1.step e st) (e1.trans e) q⟩⟩
/-! ### statements -/
structure PEn where
  nx : Nat → Ro → Prop
  rt : Nat → SV → Prop
  bk : Nat → Ro → Prop := fun _ _ => False
  ct : Nat → Ro → Prop := fun _ _ => False
structure EOn (D : Dw) (hs : Hp) (hid : Addr → Prop) (X : Ends) (E : PEn) : Prop where
  nx : ∀ own H σ ρ n, E.nx n ρ → Cn D hs hid own H σ ρ n → X.nx σ H
  bk : ∀ own H σ ρ n, E.bk n ρ → Cn D hs hid own H σ ρ n → X.bk σ H
  ct : ∀ own H σ ρ n, E.ct n ρ → Cn D hs hid own H σ ρ n → X.ct σ H
  rt : ∀ n s v H, E.rt n s → Ex hs H → D.At H n → Re (hide hid H) v s → X.rt v H
abbrev WSn := PEn → Nat → Ro → Prop
class LSn (D : Dw) (t : TS) (w : outParam WSn) : Prop where
  go : ∀ hs hid X E own H σ ρ n, EOn D hs hid X E → Cn D hs hid own H σ ρ n → w E n ρ → t X σ H
section
variable {D : Dw}
def nS (w : WS) : WSn := fun E n ρ => w { nx := E.nx n, rt := E.rt n, bk := E.bk n, ct := E.ct n } ρ
instance (priority := 3000) lsn_of {t : TS} {w : WS} [h : LS t w] : LSn D t (nS w) := ⟨fun hs hid X E own H σ ρ n k r hw => by
  let hs1 : Hp := hide (fun a => ∃ j, own j = some a) H
  have hss : Ex hs hs1 := fun a o h => (hide_of (fun ⟨j, z⟩ => by rw [(r.rep.new j a z).1] at h; cases h)).trans (r.rep.ex _ _ h)
  have r1 : Rep hs1 hid own H σ ρ := ⟨hide_ex, r.rep.occ, fun j a h => ⟨hide_yes ⟨j, h⟩, (r.rep.new j a h).2⟩, r.rep.inj, r.rep.len, r.rep.get⟩
  have st1 : D.At hs1 n := D.keep (fun a o ia h => (hide_of (fun ⟨j, z⟩ => (r.rep.new j a z).2 (r.hin a ia))).trans h) r.st
  have back : ∀ own' H' σ' ρ', Rep hs1 hid own' H' σ' ρ' → Cn D hs hid own' H' σ' ρ' n := fun own' H' σ' ρ' r' => ⟨r'.start hss, r.nc, r.hin, D.mono r'.ex st1⟩
  exact h.go hs1 hid X { nx := E.nx n, rt := E.rt n, bk := E.bk n, ct := E.ct n } own H σ ρ ⟨fun own' H' σ' ρ' p r' => k.nx own' H' σ' ρ' n p (back _ _ _ _ r'), fun own' H' σ' ρ' p r' => k.bk own' H' σ' ρ' n p (back _ _ _ _ r'), fun own' H' σ' ρ' p r' => k.ct own' H' σ' ρ' n p (back _ _ _ _ r'), fun s v H' p e q => k.rt n s v H' p (hss.trans e) (D.mono e st1) q⟩ r1 hw⟩
def nSeq (t u : WSn) : WSn := fun E n ρ => t { E with nx := u E } n ρ
instance (priority := 4000) lsn_seq {t u : TS} {a b : WSn} [Draws (tSeq t u)] [ha : LSn D t a] [hb : LSn D u b] : LSn D (tSeq t u) (nSeq a b) := ⟨fun hs hid X E own H σ ρ n k r hw =>
  ha.go hs hid { X with nx := u X } { E with nx := b E } own H σ ρ n ⟨fun own H σ ρ n p r => hb.go hs hid X E own H σ ρ n k r p, k.bk, k.ct, k.rt⟩ r hw⟩
def nDrop (e : WEn) : WSn := fun E n ρ => e n ρ fun n1 _ => E.nx n1 ρ
instance (priority := 4000) lsn_drop {t : TE} {e : WEn} [Draws (tDrop t)] [he : LEn D t e] : LSn D (tDrop t) (nDrop e) := ⟨fun hs hid X E own H σ ρ n k r hw => he.go hs hid own H σ ρ n _ _ r hw fun n1 s v H' p c1 e q => k.nx own H' σ ρ n1 p c1⟩
def nRet (e : WEn) : WSn := fun E n ρ => e n ρ E.rt
instance (priority := 4000) lsn_ret {t : TE} {e : WEn} [Draws (tRet t)] [he : LBn D t e] : LSn D (tRet t) (nRet e) := ⟨fun hs hid X E own H σ ρ n k r hw => he.go hs hid own H σ ρ n _ _ r hw fun n1 s v H' p c1 e q => k.rt n1 s v H' p c1.rep.ex c1.st (rb_ret c1.rep q)⟩
def nIfS (c : WTn) (t u : WSn) : WSn := fun E n ρ => c n ρ fun n1 b => if b = true then t E n1 ρ else u E n1 ρ
instance (priority := 4000) lsn_if {c : TT} {t u : TS} {wc : WTn} {a b : WSn} [Draws (tIfS c t u)] [hc : LTn D c wc] [ha : LSn D t a] [hb : LSn D u b] : LSn D (tIfS c t u) (nIfS wc a b) := ⟨fun hs hid X E own H σ ρ n k r hw => by
  refine hc.go hs hid own H σ ρ n _ _ r hw fun n1 c H' p c1 e => ?_
  cases c with
  | true => exact iteT (ha.go hs hid X E own H' σ ρ n1 k c1 (by simpa using p))
  | false => exact iteF (hb.go hs hid X E own H' σ ρ n1 k c1 (by simpa using p))⟩
def nAsg (e : WEn) (g : WG) : WSn := fun E n ρ => e n ρ fun n1 s => g s ρ (E.nx n1)
instance (priority := 4000) lsn_asg {t : TE} {g : TG} {js : List Nat} {e : WEn} {wg : WG} [Draws (tAsg t g)] [he : LEn D t e] [hg : LG g js wg] : LSn D (tAsg t g) (nAsg e wg) := ⟨fun hs hid X E own H σ ρ n k r hw => by
  refine he.go hs hid own H σ ρ n _ _ r hw fun n1 s v H' p c1 e q => ?_
  exact hg.go hs hid own H' σ ρ v s _ _ c1.rep q p fun σ' ρ' p' r' _ => k.nx own H' σ' ρ' n1 p' (c1.set r' c1.st)⟩
def nPar (i j : Nat) (a : WAn) : WSn := fun E n ρ => a n ρ fun n1 ss => as2 ss fun x y => E.nx n1 ((ρ.set i (some x)).set j (some y))
def nPar3 (i j l : Nat) (a : WAn) : WSn := fun E n ρ => a n ρ fun n1 ss => as3 ss fun x y z => E.nx n1 (((ρ.set i (some x)).set j (some y)).set l (some z))
instance (priority := 4000) lsn_par {i j : Nat} {t : TA} {a : WAn} [Draws (tPar i j t)] [ha : LAn D t a] : LSn D (tPar i j t) (nPar i j a) := ⟨fun hs hid X E own H σ ρ n k r hw => by
  refine ha.go hs hid own H σ ρ n _ _ r hw fun n1 ss vs H' p c1 e q => ?_
  unfold as2 at p
  split at p
  · cases q with
    | cons q1 q =>
      cases q with
      | cons q2 q =>
        cases q
        exact ⟨_, _, rfl, k.nx own H' _ _ n1 p (c1.set ((c1.rep.put i q1).put j q2) c1.st)⟩
  · exact p.elim⟩
instance (priority := 4000) lsn_par3 {i j l : Nat} {t : TA} {a : WAn} [Draws (tPar3 i j l t)] [ha : LAn D t a] : LSn D (tPar3 i j l t) (nPar3 i j l a) := ⟨fun hs hid X E own H σ ρ n k r hw => by
  refine ha.go hs hid own H σ ρ n _ _ r hw fun n1 ss vs H' p c1 e q => ?_
  unfold as3 at p
  split at p
  · cases q with
    | cons q1 q =>
      cases q with
      | cons q2 q =>
        cases q with
        | cons q3 q =>
          cases q
          exact ⟨_, _, _, rfl, k.nx own H' _ _ n1 p (c1.set (((c1.rep.put i q1).put j q2).put l q3) c1.st)⟩
  · exact p.elim⟩
/-! loops -/
def nFor (g : WG) (b : WSn) : List SV → WSn
  | [], E, n, ρ => E.nx n ρ
  | x :: r, E, n, ρ => g x ρ fun ρ' => b { E with nx := nFor g b r E, ct := nFor g b r E, bk := E.nx } n ρ'
def nForS (i : WIn) (g : WG) (b : WSn) : WSn := fun E n ρ => i n ρ fun n1 xs => nFor g b xs E n1 ρ
instance (priority := 4000) lsn_for {wi : TI} {g : TG} {tb : TS} {js : List Nat} {i : WIn} {wg : WG} {b : WSn} [Draws (tFor wi g tb)] [hi : LIn D wi i] [hg : LG g js wg] [hb : LSn D tb b] : LSn D (tFor wi g tb) (nForS i wg b) := ⟨fun hs hid X E own H σ ρ n0 k r hw => by
  refine hi.go hs hid own H σ ρ n0 _ _ r hw fun n1 xs J H1 p c1 e1 hJ => ?_
  have r1 := c1.rep
  let hs1 : Hp := hide (fun a => (∃ j, own j = some a) ∨ a = D.c) H1
  have hss : Ex hs hs1 := fun a o h => (hide_of (fun z => by
    rcases z with ⟨j, z⟩ | z
    · rw [(r1.new j a z).1] at h; cases h
    · rw [z, r.nc] at h; cases h)).trans (r1.ex _ _ h)
  have hB1 : Ex (Bh hid own H1) hs1 := hide_le fun a h => by
    rcases h with h | h
    · exact .inr h
    · exact .inl (h ▸ r.hc)
  have nc1 : hs1 D.c = none := hide_yes (.inr rfl)
  have r1' : Rep hs1 hid own H1 σ ρ := ⟨hide_ex, r1.occ, fun j a h => ⟨hide_yes (.inl ⟨j, h⟩), (r1.new j a h).2⟩, r1.inj, r1.len, r1.get⟩
  refine ⟨fun n m σ' H' => ∃ own' ρ' q, m = xs.length - n ∧ n ≤ xs.length ∧ Cn D hs1 hid own' H' σ' ρ' q ∧ nFor wg b (xs.drop n) E q ρ', ⟨xs.length, own, ρ, n1, rfl, Nat.zero_le _, ⟨r1', nc1, r.hin, c1.st⟩, p⟩, ?_⟩
  rintro n m σ' H' ⟨own', ρ', nq, rfl, hn, c', hp⟩
  have r' := c'.rep
  have up : ∀ {own' H' σ' ρ' q}, Cn D hs1 hid own' H' σ' ρ' q → Cn D hs hid own' H' σ' ρ' q := fun c => ⟨c.rep.start hss, r.nc, r.hin, c.st⟩
  by_cases hlt : n < xs.length
  · have hx : xs[n]? = some xs[n] := List.getElem?_eq_getElem hlt
    rw [List.drop_eq_getElem_cons hlt] at hp
    obtain ⟨hgo, hyld⟩ := hJ.step n _ H' (hB1.trans r'.ex) hx
    refine .inr ⟨hgo, fun σ2 H2 => ∃ own2 ρ2 q, Cn D hs1 hid own2 H2 σ2 ρ2 q ∧ nFor wg b (xs.drop (n + 1)) E q ρ2, ?_, ?_⟩
    · rintro σ2 H2 ⟨own2, ρ2, q, a1, a2⟩
      exact ⟨xs.length - (n + 1), by omega, own2, ρ2, q, rfl, hlt, a1, a2⟩
    · intro x H'' hy
      obtain ⟨rfl, hxs⟩ := hyld x H'' hy
      have hxs' : Re (Bh hid own' H'') x xs[n] := by
        refine hxs.mono fun a o h => ?_
        obtain ⟨h1, h2⟩ := hide_some h
        have h3 : hs1 a = some o := hB1 _ _ h
        refine (hide_of (fun z => ?_)).trans (r'.ex _ _ h3)
        rcases z with z | ⟨j, z⟩
        · exact h1 (.inl z)
        · rw [(r'.new j a z).1] at h3; cases h3
      refine hg.go hs1 hid own' H'' σ' ρ' _ _ _ _ r' hxs' hp fun σ2 ρ2 p2 r2 _ => ?_
      refine hb.go hs1 hid _ { E with nx := nFor wg b (xs.drop (n + 1)) E, ct := nFor wg b (xs.drop (n + 1)) E, bk := E.nx } own' H'' σ2 ρ2 nq ⟨fun own H σ ρ m p r => ⟨own, ρ, m, r, p⟩, fun own H σ ρ m p r => k.nx own H σ ρ m p (up r), fun own H σ ρ m p r => ⟨own, ρ, m, r, p⟩, fun m s v H p e st q => k.rt m s v H p (hss.trans e) st q⟩ (c'.set r2 c'.st) p2
  · have hn2 : n = xs.length := by omega
    subst hn2
    rw [List.drop_of_length_le (Nat.le_refl _)] at hp
    exact .inl ⟨hJ.stop H' (hB1.trans r'.ex), k.nx own' H' σ' ρ' nq hp (up c')⟩⟩
def nWhile (c : WTn) (b : WSn) : WSn := fun E n ρ => ∃ W : Nat → Nat → Ro → Prop, (∃ m, W m n ρ) ∧ ∀ m n ρ, W m n ρ → c n ρ fun n1 t => if t = true then b { E with nx := fun n' ρ' => ∃ m', m' < m ∧ W m' n' ρ', ct := fun n' ρ' => ∃ m', m' < m ∧ W m' n' ρ', bk := E.nx } n1 ρ else E.nx n1 ρ
instance (priority := 4000) lsn_while {c : TT} {tb : TS} {wc : WTn} {b : WSn} [Draws (tWhile c tb)] [hc : LTn D c wc] [hb : LSn D tb b] : LSn D (tWhile c tb) (nWhile wc b) := ⟨fun hs hid X E own H σ ρ n k r hw => by
  obtain ⟨W, ⟨m0, w0⟩, turn⟩ := hw
  refine ⟨fun m σ H => ∃ own ρ q, Cn D hs hid own H σ ρ q ∧ W m q ρ, ⟨m0, own, ρ, n, r, w0⟩, ?_⟩
  rintro m σ1 H1 ⟨own1, ρ1, q1, r1, w1⟩
  refine hc.go hs hid own1 H1 σ1 ρ1 q1 _ _ r1 (turn m q1 ρ1 w1) fun n2 t H2 p c2 e => ?_
  cases t with
  | true =>
    refine iteT ⟨fun σ' H' => ∃ own' ρ' q, Cn D hs hid own' H' σ' ρ' q ∧ ∃ m', m' < m ∧ W m' q ρ', ?_, ?_⟩
    · rintro σ' H' ⟨own', ρ', q, a, m', b1, b2⟩
      exact ⟨m', b1, own', ρ', q, a, b2⟩
    · exact hb.go hs hid _ { E with nx := fun n' ρ' => ∃ m', m' < m ∧ W m' n' ρ', ct := fun n' ρ' => ∃ m', m' < m ∧ W m' n' ρ', bk := E.nx } own1 H2 σ1 ρ1 n2 ⟨fun own H σ ρ q p r => ⟨own, ρ, q, r, p⟩, fun own H σ ρ q p r => k.nx own H σ ρ q p r, fun own H σ ρ q p r => ⟨own, ρ, q, r, p⟩, k.rt⟩ c2 (by simpa using p)
  | false => exact iteF (k.nx own1 H2 σ1 ρ1 n2 (by simpa using p) c2)⟩
end
/-- a def that draws, by its reading -/
theorem okC {P : Program} {w : World} {K : PySem.W.Frag} {mg : Str → Option Value} {base : Heap} {x qual : Str} {st : Stmt} {f : Addr} {fd : FuncData} {N ps : List Str} {k : Nat} {Fm : Dw → Prop} {R : RC} (F : Fun K x qual st f fd) (S : FnScope N ps (defScope st))
    (hbody : ∀ (cdv : Value) (A : Around) (outer : List Env) (s : Shared) (H : Hp) (E : XK), Room k (A.deeper (envOfC qual (defScope st) s.heap.objs.size f cdv)) →
      ∃ t, PSs (cxOf CX0 P w K mg base N qual (defScope st) f cdv A outer s H E).nox (defBody st) t ∧ ∀ D [IsFam Fm D], ∃ w', LSn D t w' ∧ ∀ n ss Pd, ss.length = ps.length → R D.c n ss Pd → w' { nx := fun m _ => Pd m (.d .none), rt := Pd } n (ss.map some ++ List.replicate (N.length - ss.length) none)) :
    FnOk P w K mg base CX0 (k + 1) f fd ps (spC Fm ps.length R) := by
  refine F.ok S (fun vs H Q E h => ?_) (fun cdv A outer s H vs Q E hr h => ?_)
  · obtain ⟨D, hid, n, ss, P, _, h1, _, _, _, h2, _⟩ := h
    rw [h2.len]; exact h1
  · obtain ⟨D, hid, n, ss, Pd, hF, h1, ho, hin, hst, h2, hR, kk⟩ := h
    obtain ⟨t, ht, hw⟩ := hbody cdv A outer s H E hr
    haveI : IsFam Fm D := ⟨hF⟩
    obtain ⟨w', hl, hw⟩ := hw D
    have hc : hid D.c := hin _ D.cIn
    have r0 := start_rep (N := N) ho h2
    let hs : Hp := hide (fun a => a = D.c) H
    have r1 : Rep hs hid (fun _ => none) H (L2.start N vs) (ss.map some ++ List.replicate (N.length - ss.length) none) := ⟨hide_ex, r0.occ, (fun i a h => nomatch h), r0.inj, r0.len, r0.get⟩
    refine ⟨t, ht, hl.go hs hid _ { nx := fun m _ => Pd m (.d .none), rt := Pd } (fun _ => none) H _ _ n ⟨fun own H' σ ρ m p r => ?_, fun own H' σ ρ m p r => p.elim, fun own H' σ ρ m p r => p.elim, fun m s v H' p e st q => kk m s v H' p e st q⟩ ⟨r1, hide_yes rfl, hin, hst⟩ (hw n ss Pd h1 hR)⟩
    exact kk m (.d .none) .non H' p r.rep.ex r.st .non
end Lr

namespace Lr
open PySem L2
/-! ### the loom: a list [int, int, list of ints] that only the drawing def opens; its count is known -/
def LoomV (d : Addr) (m t : Int) : List V := [.int m, .int t, .ref d]
def LmOk (m : Int) : Prop := 0 ≤ m ∧ m < 2305843009213693951
section
variable (P : Program) (w : World)
def phiW (c d : Addr) (n : Nat) : Heap → Prop := fun h => ∃ m t : Int, LmOk m ∧ (0 ≤ t ∧ t ≤ n) ∧ ObjOk P w H0 h c (.lst (LoomV d m t))
def LoomAt (c d : Addr) (H : Hp) (n : Nat) : Prop := H c = some (.ext (phiW P w c d n)) ∧ H d = some (.ext (phiQ P w d)) ∧ d ≠ c
def loomD (c d : Addr) : Dw where
  c := c
  In := fun a => a = c ∨ a = d
  cIn := .inl rfl
  At := LoomAt P w c d
  occ := fun {H n a} i h => by
    rcases i with rfl | rfl
    · rw [h.1]; exact fun z => nomatch z
    · rw [h.2.1]; exact fun z => nomatch z
  keep := fun {H H' n} e h => ⟨e _ _ (.inl rfl) h.1, e _ _ (.inr rfl) h.2.1, h.2.2⟩
def FLoom (D : Dw) : Prop := ∃ c d, D = loomD P w c d
end
section
variable {P : Program} {w : World} {c d : Addr}
theorem stayW {n : Nat} {h1 h2 : Heap} (x : phiW P w c d n h1) (k : ∀ o, h1.get? c = some o → h2.get? c = some o) : phiW P w c d n h2 := by
  obtain ⟨m, t, g, g2, x⟩ := x
  refine ⟨m, t, g, g2, ObjOk.stay x (fun b u hb e => ?_) (fun _ q => nomatch q) fun _ _ q => nomatch q⟩
  rcases hb with rfl | q
  · exact k u e
  · cases q
end
section
variable {X : Cx} {pins : List (Addr × Obj)} {σ : L2.St} {H : Hp} {s : Shared} {c d : Addr} {n : Nat}
theorem openedL (I : Inv X pins σ H s) (h1 : H c = some (.ext (phiW X.prog X.w c d n))) (h2 : H d = some (.ext (phiQ X.prog X.w d))) (hcd : d ≠ c) :
    ∃ (m t : Int) (ds : List Int), LmOk m ∧ (0 ≤ t ∧ t ≤ n) ∧ PileOk ds ∧ Inv X pins σ (upd (upd H c (.lst (LoomV d m t))) d (.lst (ds.map V.int))) s := by
  obtain ⟨⟨m, t, g1, g2, x1⟩, th1, _⟩ := I.hok c _ h1
  obtain ⟨⟨ds, g3, x2⟩, th2, _⟩ := I.hok d _ h2
  have I1 := reword (o' := .lst (LoomV d m t)) I h1 trivial x1 th1
  have h3 : upd H c (.lst (LoomV d m t)) d = some (.ext (phiQ X.prog X.w d)) := by rw [upd_ne hcd]; exact h2
  exact ⟨m, t, ds, g1, g2, g3, reword (o' := .lst (ds.map V.int)) I1 h3 trivial x2 th2⟩
theorem closedL {m t : Int} {k : Nat} {ds : List Int} (I : Inv X pins σ H s) (h1 : H c = some (.lst (LoomV d m t))) (h2 : H d = some (.lst (ds.map V.int))) (g1 : LmOk m) (gt : 0 ≤ t ∧ t ≤ k) (g2 : PileOk ds) (hcd : d ≠ c) :
    Inv X pins σ (upd (upd H c (.ext (phiW X.prog X.w c d k))) d (.ext (phiQ X.prog X.w d))) s := by
  have x1 : ObjOk X.prog X.w H0 s.heap c (.lst (LoomV d m t)) := I.hok c _ h1
  have x2 : ObjOk X.prog X.w H0 s.heap d (.lst (ds.map V.int)) := I.hok d _ h2
  have I1 := reword (o' := .ext (phiW X.prog X.w c d k)) I h1 trivial ⟨⟨m, t, g1, gt, x1⟩, there_lst x1, fun _ _ p k => stayW p k⟩ (there_lst x1)
  have h3 : upd H c (.ext (phiW X.prog X.w c d k)) d = some (.lst (ds.map V.int)) := by rw [upd_ne hcd]; exact h2
  exact reword (o' := .ext (phiQ X.prog X.w d)) I1 h3 trivial ⟨⟨ds, g2, x2⟩, there_lst x2, fun _ _ p k => stayQ p k⟩ (there_lst x2)
end
def tLoom (P : Program) (w : World) (t : TS) : TS := fun D σ H => ∃ c d n, H c = some (.ext (phiW P w c d n)) ∧ H d = some (.ext (phiQ P w d)) ∧ d ≠ c ∧
  ∀ (m tm : Int) (ds : List Int), LmOk m → (0 ≤ tm ∧ tm ≤ n) → PileOk ds → t ⟨fun _ _ => False, fun v H' => (∃ (m' tm' : Int) (ds' : List Int), H' c = some (.lst (LoomV d m' tm')) ∧ H' d = some (.lst (ds'.map V.int)) ∧ LmOk m' ∧ (0 ≤ tm' ∧ tm' ≤ ((n + 1 : Nat) : Int)) ∧ PileOk ds' ∧
    D.rt v (upd (upd H' c (.ext (phiW P w c d (n + 1)))) d (.ext (phiQ P w d)))), fun _ _ => False, fun _ _ => False⟩ σ (upd (upd H c (.lst (LoomV d m tm))) d (.lst (ds.map V.int)))
theorem pss_loom {X : Cx} {st : List Stmt} {t : TS} (h : PSs X st t) : PSs X st (tLoom X.prog X.w t) := by
  refine ⟨fun pins s σ H D I hw => ?_⟩
  obtain ⟨c, d, n, h1, h2, hcd, hw⟩ := hw
  obtain ⟨m, tm, ds, g1, gt, g2, I1⟩ := openedL I h1 h2 hcd
  refine thn (h.run pins s σ _ _ I1 (hw m tm ds g1 gt g2)) fun f s1 q => ?_
  cases f with
  | next => obtain ⟨_, _, _, z⟩ := q; exact z.elim
  | brk => obtain ⟨_, _, _, z⟩ := q; exact z.elim
  | cont => obtain ⟨_, _, _, z⟩ := q; exact z.elim
  | ret v =>
    obtain ⟨x, σ', H', I2, r, m', tm', ds', e1, e2, g1', gt', g2', z⟩ := q
    exact ⟨x, σ', _, closedL I2 e1 e2 g1' gt' g2' hcd, r, z⟩
/-- a body that makes a loom closes it ahead of its return -/
def tShutW (P : Program) (w : World) (t : TS) : TS := fun D σ H => t ⟨fun _ _ => False, fun v H' => (∃ (c d : Addr) (m : Int) (ds : List Int), v = .ref c ∧ H' c = some (.lst (LoomV d m 0)) ∧ H' d = some (.lst (ds.map V.int)) ∧ LmOk m ∧ PileOk ds ∧ d ≠ c ∧
    D.rt v (upd (upd H' c (.ext (phiW P w c d 0))) d (.ext (phiQ P w d)))), fun _ _ => False, fun _ _ => False⟩ σ H
theorem pss_shutW {X : Cx} {st : List Stmt} {t : TS} (h : PSs X st t) : PSs X st (tShutW X.prog X.w t) := by
  refine ⟨fun pins s σ H D I hw => ?_⟩
  refine thn (h.run pins s σ _ _ I hw) fun f s1 q => ?_
  cases f with
  | next => obtain ⟨_, _, _, z⟩ := q; exact z.elim
  | brk => obtain ⟨_, _, _, z⟩ := q; exact z.elim
  | cont => obtain ⟨_, _, _, z⟩ := q; exact z.elim
  | ret v =>
    obtain ⟨x, σ', H', I2, r, c, d, m, ds, rfl, e1, e2, gm, g, hcd, z⟩ := q
    exact ⟨_, σ', _, closedL I2 e1 e2 gm ⟨by decide, by decide⟩ g hcd, r, z⟩
end Lr

namespace Lr
open PySem L2 PySem.Spec PyProof.Rows
section
variable {D : Dw}
def nSl (a : WEn) (l u : WOn) : WEn := fun n ρ P => a n ρ fun n1 x => l n1 ρ fun n2 i => u n2 ρ fun n3 j => fSl x i j (P n3)
instance (priority := 4000) len_sl {K : PySem.W.Frag} {te : TE} {tl th : TO} {a : WEn} {l u : WOn} [Draws (tSl (rSlX K) te tl th)] [ha : LBn D te a] [hl : LOn D tl l] [hu : LOn D th u] : LEn D (tSl (rSlX K) te tl th) (nSl a l u) := ⟨fun hs hid own H σ ρ n P Q r hw k => by
  refine ha.go hs hid own H σ ρ n _ _ r hw fun n1 s v H1 p c1 e1 q => ?_
  refine hl.go hs hid own H1 σ ρ n1 _ _ c1 p fun n2 i H2 p2 c2 e2 => ?_
  refine hu.go hs hid own H2 σ ρ n2 _ _ c2 p2 fun n3 j H3 p3 c3 e3 => ?_
  have r3 := c3.rep
  have q3 := c2.rb e3 (c1.rb e2 q)
  have ee := (e1.trans e2).trans e3
  have k3 : ∀ s v H', P n3 s → Ex H3 H' → Re (Bh hid own H') v s → Q v H' := fun s v H' p e => k n3 s v H' p (c3.mono e) (ee.trans (.of e))
  unfold fSl at p3
  split at p3
  · obtain ⟨a, vs, rfl, h1, t1⟩ := q3.list
    exact .inr (.inl ⟨a, vs, rfl, SqL.of h1, new_lst (fun p hp => r3.notO hp) (t1.cut i j) p3 k3⟩)
  · obtain ⟨a, vs, rfl, h1, t1⟩ := q3.tuple
    refine .inl ⟨a, vs, rfl, (h1.ex hide_ex).sq, fun z => ?_, fun _ => new_tup (fun p hp => r3.notO hp) (t1.cut i j) p3 k3⟩
    refine k3 _ _ H3 p3 (Evl.Ex.refl _) (.tup h1 ?_)
    have t2 := t1.cut i j
    unfold cutV at t2
    rw [z.1, z.2] at t2
    simpa using t2
  · rw [q3.str]
    exact .inr (.inr ⟨_, rfl, Evl.sz_of p3.1, k3 _ _ H3 p3.2 (Evl.Ex.refl _) (.str _)⟩)
  · exact p3.elim⟩
/-! ### lists of one's own -/
theorem Cn.mut {hs : Hp} {hid : Addr → Prop} {own : Ix → Option Addr} {H : Hp} {σ : L2.St} {ρ : Ro} {n : Nat} {i : Nat} {a : Addr} {vs : List V} {ds : List PyData} (r : Cn D hs hid own H σ ρ n) (ha : own (.s i) = some a) (hv : σ[i]? = some (some (.ref a))) (t : DdAll (Bh hid own H) vs ds) :
    Cn D hs hid own (upd H a (.lst vs)) σ (ρ.set i (some (.own ds))) n := ⟨r.rep.mut ha hv t, r.nc, r.hin, D.keep (fun b o ib h => by
      have ne : b ≠ a := fun z => (r.rep.new (.s i) a ha).2 (z ▸ r.hin b ib)
      rw [upd_ne ne]; exact h) r.st⟩
def nApp (i : Nat) (e : WEn) : WSn := fun E n ρ => gown ρ[i]? fun ds => ds.length < 100000 ∧ e n ρ fun n1 y => asDs [y] fun d => E.nx n1 (ρ.set i (some (.own (ds ++ d))))
instance (priority := 4050) lsn_app {K : PySem.W.Frag} {i : Nat} {t : TE} {e : WEn} [Draws (tDrop (tBM K "list" rAppend (tVar i) (tCons t tNil)))] [he : LEn D t e] : LSn D (tDrop (tBM K "list" rAppend (tVar i) (tCons t tNil))) (nApp i e) := ⟨fun hs hid X E own H σ ρ n k r hw => by
  obtain ⟨ds0, a, vs, ⟨hlen, hw⟩, hds, h2, h1, h3, h4⟩ := gown_get r.rep hw
  refine ⟨_, h1, .inl ⟨rfl, _, SqL.of h3⟩, he.go hs hid own H σ ρ n _ _ r hw fun n1 s y H1 p c1 e1 q => ?_⟩
  unfold asDs at p
  split at p
  · rename_i d hd
    have td : DdAll (Bh hid own H1) [y] d := ReAll.dd (.cons q .nil) hd
    refine ⟨a, vs, y, rfl, rfl, e1.at' (r.ownNe h2) h3, by rw [h4.len]; exact Evl.sz_lt hlen, ?_⟩
    exact k.nx own _ _ _ n1 p (c1.mut h2 h1 ((h4.mono (e1.bh r.hc)).app td))
  · exact p.elim⟩
def nAppPop (i j : Nat) (e : WEn) : WSn := fun E n ρ => i ≠ j ∧ gown ρ[i]? fun ds => gown ρ[j]? fun es => ds.length < 100000 ∧ e n ρ fun n1 x => asI x fun m => 0 ≤ m ∧ m ≤ 1000000 ∧ ∃ d, es[m.toNat]? = some d ∧ E.nx n1 ((ρ.set j (some (.own (es.eraseIdx m.toNat)))).set i (some (.own (ds ++ [d]))))
instance (priority := 4100) lsn_appPop {K : PySem.W.Frag} {i j : Nat} {t : TE} {e : WEn} [Draws (tDrop (tBM K "list" rAppend (tVar i) (tCons (tBM K "list" rPopAt (tVar j) (tCons t tNil)) tNil)))] [hn : LEn D t e] : LSn D (tDrop (tBM K "list" rAppend (tVar i) (tCons (tBM K "list" rPopAt (tVar j) (tCons t tNil)) tNil))) (nAppPop i j e) := ⟨fun hs hid X E own H σ ρ n k r hw => by
  obtain ⟨ne, hw⟩ := hw
  obtain ⟨ds, p, vs, hw, hds, o1, v1, h1, t1⟩ := gown_get r.rep hw
  obtain ⟨es, q, ws, ⟨few, hw⟩, hes, o2, v2, h2, t2⟩ := gown_get r.rep hw
  refine ⟨_, v1, .inl ⟨rfl, _, SqL.of h1⟩, _, v2, .inl ⟨rfl, _, SqL.of h2⟩, hn.go hs hid own H σ ρ n _ _ r hw fun n1 s x H1 p1 c1 e1 q1 => ?_⟩
  unfold asI at p1
  split at p1
  · cases q1
    rename_i m
    obtain ⟨m0, m1, d, hd, pn⟩ := p1
    have r1 := c1.rep
    obtain ⟨y, hy, dy⟩ := (t2.mono (e1.bh r.hc)).getD hd
    have lt : m.toNat < ws.length := (List.getElem?_eq_some_iff.mp hy).1
    have sx : seqIndex? m ws.length = some m.toNat := by
      unfold seqIndex?
      simp only [show ¬ m < 0 by omega, if_false]
      simp
      omega
    have npq : p ≠ q := fun z => ne (Ix.s.inj (r.rep.inj (.s i) (.s j) p o1 (by rw [z]; exact o2)))
    refine ⟨q, ws, m, m.toNat, y, rfl, rfl, e1.at' (r.ownNe o2) h2, by omega, by omega, sx, hy, ?_⟩
    have r2 := c1.mut o2 v2 ((t2.mono (e1.bh r.hc)).erase m.toNat)
    have hB : Ex (Bh hid own H1) (Bh hid own (upd H1 q (.lst (ws.eraseIdx m.toNat)))) := hide_upd (.inr ⟨.s j, o2⟩)
    refine ⟨p, vs, y, rfl, rfl, ?_, by rw [t1.len]; exact Evl.sz_lt few, ?_⟩
    · rw [upd_ne npq]; exact e1.at' (r.ownNe o1) h1
    · exact k.nx own _ _ _ n1 pn (r2.mut o1 v1 (((t1.mono (e1.bh r.hc)).app (.cons dy .nil)).mono hB))
  · exact p1.elim⟩
def nPut (i : Nat) (a b : WEn) : WSn := fun E n ρ => gown ρ[i]? fun ds => a n ρ fun n1 y => asD y fun d => b n1 ρ fun n2 x => asI x fun j => ∃ m, ixN ds.length j = some m ∧ E.nx n2 (ρ.set i (some (.own (ds.set m d))))
instance (priority := 4050) lsn_put {i : Nat} {ta tb : TE} {a b : WEn} [Draws (tAsg ta (gSub (tVar i) tb rSetL))] [ha : LEn D ta a] [hb : LEn D tb b] : LSn D (tAsg ta (gSub (tVar i) tb rSetL)) (nPut i a b) := ⟨fun hs hid X E own H σ ρ n k r hw => by
  obtain ⟨ds, p, vs, hw, hds, h2, h1, h3, h4⟩ := gown_get r.rep hw
  refine ha.go hs hid own H σ ρ n _ _ r hw fun n1 s y H1 p1 c1 e1 q1 => ⟨_, h1, ?_⟩
  unfold asD at p1
  split at p1
  · refine hb.go hs hid own H1 σ ρ n1 _ _ c1 p1 fun n2 s2 x H2 p2 c2 e2 q2 => ?_
    unfold asI at p2
    split at p2
    · cases q2
      obtain ⟨m, hm, pn⟩ := p2
      refine ⟨p, vs, _, m, rfl, rfl, e2.at' (r.ownNe h2) (e1.at' (r.ownNe h2) h3), by rw [h4.len]; exact hm, ?_⟩
      exact k.nx own _ _ _ n2 pn (c2.mut h2 h1 (((h4.mono (e1.bh r.hc)).mono (e2.bh r.hc)).put m (Dd.mono (e2.bh r.hc) q1)))
    · exact p2.elim
  · exact p1.elim⟩
/-! a new list that draws -/
abbrev WFn := Nat → Ro → (Nat → List PyData → Prop) → Prop
class LFn (D : Dw) (t : TE) (w : outParam WFn) : Prop where
  go : ∀ hs hid own H σ ρ n (P : Nat → List PyData → Prop) (Q : VK), Cn D hs hid own H σ ρ n → w n ρ P → (∀ n' ds a vs H', P n' ds → Cn D hs hid own H' σ ρ n' → Eo D.c H H' → H a = none → H' a = some (.lst vs) → DdAll (hide (fun b => Oo hid own b ∨ b = a) H') vs ds → Q (.ref a) H') → t σ H Q
def nF (w : Ro → (List PyData → Prop) → Prop) : WFn := fun n ρ P => w ρ (P n)
instance (priority := 3000) lfn_of {t : TE} {w : Ro → (List PyData → Prop) → Prop} [h : LF t w] : LFn D t (nF w) := ⟨fun hs hid own H σ ρ n P Q r hw k => h.go hs hid own H σ ρ (P n) Q r.rep hw fun ds a vs H' p e hn ha t => k n ds a vs H' p (r.mono e) (.of e) hn ha t⟩
def nOwn (i : Nat) (w : WFn) : WSn := fun E n ρ => w n ρ fun n1 ds => E.nx n1 (ρ.set i (some (.own ds)))
theorem Cn.own_new {hs : Hp} {hid : Addr → Prop} {own : Ix → Option Addr} {H H' : Hp} {σ : L2.St} {ρ : Ro} {n n' : Nat} {a : Addr} {vs : List V} {ds : List PyData} (i : Nat) (r : Cn D hs hid own H σ ρ n) (c : Cn D hs hid own H' σ ρ n') (e : Eo D.c H H') (hn : H a = none) (ha : H' a = some (.lst vs)) (t : DdAll (hide (fun b => Oo hid own b ∨ b = a) H') vs ds) :
    Cn D hs hid (setO own (.s i) a) H' (σ.set i (some (.ref a))) (ρ.set i (some (.own ds))) n' := by
  have nO : ¬ Oo hid own a := r.rep.notO hn
  have sub : ∀ b, Oo hid (setO own (.s i) a) b → Oo hid own b ∨ b = a := oo_set
  have hB : Ex (Bh hid own H) (Bh hid (setO own (.s i) a) H') := fun b o h => by
    obtain ⟨h1, h2⟩ := hide_some h
    have nb : b ≠ D.c := fun z => h1 (.inl (z ▸ r.hc))
    refine (hide_of (fun z => ?_)).trans (e.at' nb h2)
    rcases sub b z with z | rfl
    · exact h1 z
    · rw [hn] at h2; cases h2
  have keeps : ∀ (x : Ix) (b : Addr), own x = some b → H' b = H b := fun x b hb => by
    cases q : H b with
    | none => exact absurd q (r.rep.occ b (.inr ⟨x, hb⟩))
    | some o => exact e.at' (r.ownNe hb) q
  refine ⟨⟨c.rep.ex, fun b h => ?_, fun j b h => ?_, fun j k b h1 h2 => ?_, by rw [List.length_set, List.length_set]; exact r.rep.len, fun j s h => ?_⟩, r.nc, r.hin, c.st⟩
  · rcases sub b h with z | rfl
    · exact c.rep.occ b z
    · rw [ha]; exact fun z => nomatch z
  · unfold setO at h
    by_cases hj : j = .s i
    · simp only [hj, if_true] at h
      cases h
      exact ⟨Evl.fresh_back r.rep.ex hn, fun z => nO (.inl z)⟩
    · simp only [hj, if_false] at h
      exact r.rep.new j b h
  · unfold setO at h1 h2
    by_cases hj : j = .s i
    · by_cases hk : k = .s i
      · rw [hj, hk]
      · simp only [hj, hk, if_true, if_false] at h1 h2
        cases h1
        exact absurd (Or.inr ⟨k, h2⟩) nO
    · by_cases hk : k = .s i
      · simp only [hj, hk, if_true, if_false] at h1 h2
        cases h2
        exact absurd (Or.inr ⟨j, h1⟩) nO
      · simp only [hj, hk, if_false] at h1 h2
        exact r.rep.inj j k b h1 h2
  · rw [List.getElem?_set] at h ⊢
    by_cases hi : i = j
    · subst hi
      rw [if_pos rfl] at h ⊢
      by_cases hl : i < ρ.length
      · rw [if_pos hl] at h
        cases h
        rw [if_pos (by rw [r.rep.len]; exact hl)]
        exact ⟨_, rfl, a, vs, by simp [setO], rfl, ha, t.mono (hide_le sub)⟩
      · rw [if_neg hl] at h
        cases h
    · rw [if_neg hi] at h ⊢
      obtain ⟨v, h1, h2⟩ := r.rep.get j s h
      refine ⟨v, h1, ?_⟩
      have hj : ¬ j = i := fun z => hi z.symm
      refine h2.lift (fun x b hx hb => ?_) hB
      have nx : ¬ x = .s i := fun z => by
        rcases hx with hx | ⟨k, l, hx⟩
        · rw [hx] at z; exact hj (Ix.s.inj z)
        · rw [hx] at z; cases z
      exact ⟨by simp only [setO, nx, if_false]; exact hb, keeps x b hb⟩
instance (priority := 4000) lsn_own {i : Nat} {t : TE} {w : WFn} [Draws (tOwn i t)] [h : LFn D t w] : LSn D (tOwn i t) (nOwn i w) := ⟨fun hs hid X E own H σ ρ n k r hw => by
  refine h.go hs hid own H σ ρ n _ _ r hw fun n1 ds a vs H' p c e hn ha t => ?_
  exact k.nx _ H' _ _ n1 p (r.own_new i c e hn ha t)⟩
def nRel (i : Nat) (w : WSn) : WSn := fun E n ρ => gown ρ[i]? fun ds => w E n (ρ.set i (some (.d (.list ds))))
instance (priority := 4000) lsn_rel {i : Nat} {t : TS} {w : WSn} [Draws (tRel i t)] [h : LSn D t w] : LSn D (tRel i t) (nRel i w) := ⟨fun hs hid X E own H σ ρ n k r hw => by
  obtain ⟨ds, a, vs, p, h0, _⟩ := gown_get r.rep hw
  obtain ⟨own', r'⟩ := r.rep.rel h0
  exact h.go hs hid X E own' H σ _ n k ⟨r', r.nc, r.hin, r.st⟩ p⟩
def nParN (k : Nat) (is : List Nat) (a : WAn) : WSn := fun E n ρ => is.length = k ∧ k ≤ 1000 ∧ a n ρ fun n1 ss => ss.length = k ∧ E.nx n1 (setAll ρ is ss)
theorem Rep.putRe {hs : Hp} {hid : Addr → Prop} {own : Ix → Option Addr} {H : Hp} : ∀ {is : List Nat} {vs : List V} {ss : List SV} {σ : L2.St} {ρ : Ro}, Rep hs hid own H σ ρ → ReAll (Bh hid own H) vs ss → Rep hs hid own H (setAllV σ is vs) (setAll ρ is ss)
  | [], _, _, _, _, r, _ => r
  | _ :: _, _, _, _, _, r, .nil => r
  | i :: is, _, _, _, _, r, .cons h t => (r.put i h).putRe t
instance (priority := 4050) lsn_parN {K : PySem.W.Frag} {k : Nat} {t : TA} {g : TGs} {is : List Nat} {a : WAn} [Draws (tAsg (tTupF t) (gTup K k g))] [hg : GN g is] [ha : LAn D t a] : LSn D (tAsg (tTupF t) (gTup K k g)) (nParN k is a) := ⟨fun hs hid X E own H σ ρ n kk r hw => by
  obtain ⟨hn, hl, hw⟩ := hw
  refine ha.go hs hid own H σ ρ n _ _ r hw fun n1 ss vs H' p c e q => ?_
  obtain ⟨ln, p⟩ := p
  have lens := q.len
  refine ⟨by rw [lens, ln]; exact Evl.sz_of (by omega), fun z o hz ho => ?_⟩
  have e2 := Evl.Ex.new hz (o := .frz o (.tup vs))
  refine ⟨z, vs, rfl, ?_, ?_, hg.go vs σ _ _ (by rw [lens, ln, hn]) (kk.nx own _ _ _ n1 p ((c.mono e2).set ((c.mono e2).rep.putRe (q.mono (hide_mono e2))) (D.mono e2 c.st)))⟩
  · exact (show Ti (upd H' z (.frz o (.tup vs))) z vs from ⟨o, upd_same, ho⟩).sq
  · rw [lens, ln]⟩
/-- lists put together, many times, item by item: new ones -/
def asL2 (x : SV) (P : List PyData → Prop) : Prop := match x with
  | .d (.list ds) => P ds
  | _ => False
def nCat (a b : WEn) : WFn := fun n ρ P => a n ρ fun n1 x => asL2 x fun xs => b n1 ρ fun n2 y => asL2 y fun ys => xs.length + ys.length ≤ 100000 ∧ P n2 (xs ++ ys)
instance (priority := 3500) lfn_cat {K : PySem.W.Frag} {ta tb : TE} {a b : WEn} [ha : LBn D ta a] [hb : LBn D tb b] : LFn D (tOp (rAdd K) ta tb) (nCat a b) := ⟨fun hs hid own H σ ρ n P Q r hw k => by
  refine ha.go hs hid own H σ ρ n _ _ r hw fun n1 sx x H1 hx c1 e1 rx => ?_
  unfold asL2 at hx
  split at hx
  · refine hb.go hs hid own H1 σ ρ n1 _ _ c1 hx fun n2 sy y H2 hy c2 e2 ry => ?_
    unfold asL2 at hy
    split at hy
    · obtain ⟨xa, vs, rfl, h1, t1⟩ := (c1.rb e2 rx).list
      obtain ⟨yb, ws, rfl, h2, t2⟩ := ry.list
      refine .inr (.inr (.inl ⟨xa, yb, vs, ws, rfl, rfl, h1, h2, by rw [t1.len, t2.len]; exact Evl.sz_of hy.1, fun p hp => ?_⟩))
      have hn : H p = none := by
        cases q : H p with
        | none => rfl
        | some o =>
          by_cases z : p = D.c
          · exact absurd hp (z ▸ D.occ D.cIn c2.st)
          · rw [(e1.trans e2).at' z q] at hp; cases hp
      exact k n2 _ _ _ _ hy.2 (c2.mono (Evl.Ex.new hp)) ((e1.trans e2).trans (.of (Evl.Ex.new hp))) hn upd_same ((t1.app t2).mono (hide_new2 hp))
    · exact hy.elim
  · exact hx.elim⟩
def nTimes (a b : WEn) : WFn := fun n ρ P => a n ρ fun n1 x => asL2 x fun xs => b n1 ρ fun n2 y => asI y fun k => -1000000 ≤ k ∧ k ≤ 1000000 ∧ xs.length * k.toNat ≤ 100000 ∧ P n2 (List.replicate k.toNat xs).flatten
instance (priority := 3500) lfn_times {K : PySem.W.Frag} {ta tb : TE} {a b : WEn} [ha : LBn D ta a] [hb : LBn D tb b] : LFn D (tOp (rMul K) ta tb) (nTimes a b) := ⟨fun hs hid own H σ ρ n P Q r hw k => by
  refine ha.go hs hid own H σ ρ n _ _ r hw fun n1 sx x H1 hx c1 e1 rx => ?_
  unfold asL2 at hx
  split at hx
  · refine hb.go hs hid own H1 σ ρ n1 _ _ c1 hx fun n2 sy y H2 hy c2 e2 ry => ?_
    unfold asI at hy
    split at hy
    · obtain ⟨xa, vs, rfl, h1, t1⟩ := (c1.rb e2 rx).list
      rw [ry.int]
      refine .inr (.inl ⟨xa, _, vs, rfl, rfl, h1, by omega, by omega, by rw [t1.len]; exact Evl.sz_of hy.2.2.1, fun p hp => ?_⟩)
      have hn : H p = none := by
        cases q : H p with
        | none => rfl
        | some o =>
          by_cases z : p = D.c
          · exact absurd hp (z ▸ D.occ D.cIn c2.st)
          · rw [(e1.trans e2).at' z q] at hp; cases hp
      exact k n2 _ _ _ _ hy.2.2.2 (c2.mono (Evl.Ex.new hp)) ((e1.trans e2).trans (.of (Evl.Ex.new hp))) hn upd_same ((t1.rep _).mono (hide_new2 hp))
    · exact hy.elim
  · exact hx.elim⟩
def nFlc (i : WIn) (g : WG) (c : WTn) (e : WEn) (vs : List Nat) : WFn := fun n ρ P => i n ρ fun n1 xs => xs.length ≤ 100000 ∧ nComp g c e (wipeR ρ vs) xs n1 P
instance (priority := 3500) lfn_lc {wi : TI} {g : TG} {tt : TT} {te : TE} {vs js : List Nat} {i : WIn} {wg : WG} {c : WTn} {e : WEn} [hi : LIn D wi i] [hg : LG g js wg] [hc : LTn D tt c] [he : LEn D te e] [hv : SubL js vs] : LFn D (tLc wi g tt te vs) (nFlc i wg c e vs) := ⟨fun hs hid own H σ ρ n0 P Q r hw k => by
  refine hi.go hs hid own H σ ρ n0 _ _ r hw fun n1 xs J H1 p c1 e1 hJ A hA => ?_
  obtain ⟨hlen, p⟩ := p
  have nA : ¬ Oo hid own A := c1.rep.notO hA
  have hcA : hid D.c := r.hc
  have cA : D.c ≠ A := fun z => nA (.inl (z ▸ hcA))
  let hid' : Addr → Prop := fun a => hid a ∨ a = A
  have ownA : ∀ j a, own j = some a → a ≠ A := fun j a h z => nA (.inr ⟨j, by rw [h, z]⟩)
  let Pd : Nat → List PyData → Prop := P
  refine ⟨fun n m H' => ∃ k acc ys, m = xs.length - n ∧ n ≤ xs.length ∧ Eo D.c H1 H' ∧ D.At H' k ∧ H' A = some (.lst acc) ∧ acc.length ≤ n ∧ DdAll (Bh hid' own H') acc ys ∧ nComp wg c e (wipeR ρ vs) (xs.drop n) k (fun m zs => Pd m (ys ++ zs)), ⟨xs.length, n1, [], [], rfl, Nat.zero_le _, .of (Evl.Ex.new hA), D.mono (Evl.Ex.new hA) c1.st, upd_same, Nat.le_refl _, .nil, by simpa using p⟩, ?_⟩
  rintro n m H' ⟨kk, acc, ys, rfl, hn, e2, hst, hacc, hal, hys, hp⟩
  have hBD : ∀ {G : Hp}, Ex (Bh hid' own G) (Bh hid own G) := hide_le oo_or
  have c2 := c1.step e2 hst
  by_cases hlt : n < xs.length
  · have hx : xs[n]? = some xs[n] := List.getElem?_eq_getElem hlt
    rw [List.drop_eq_getElem_cons hlt] at hp
    obtain ⟨hgo, hyld⟩ := hJ.step n _ H' (e2.bhx hcA) hx
    refine .inr ⟨hgo, fun G => ∃ k acc ys, Eo D.c H1 G ∧ D.At G k ∧ G A = some (.lst acc) ∧ acc.length ≤ n + 1 ∧ DdAll (Bh hid' own G) acc ys ∧ nComp wg c e (wipeR ρ vs) (xs.drop (n + 1)) k (fun m zs => Pd m (ys ++ zs)), ?_, ?_⟩
    · rintro G ⟨k, acc, ys, a1, a2, a3, a4, a5, a6⟩
      exact ⟨xs.length - (n + 1), by omega, k, acc, ys, rfl, hlt, a1, a2, a3, a4, a5, a6⟩
    · intro x H'' hy
      obtain ⟨rfl, hxs⟩ := hyld x H'' hy
      have hB : Ex (Bh hid own H1) (Bh hid' own H'') := fun a o h => by
        obtain ⟨h1, h2⟩ := hide_some h
        have na : a ≠ D.c := fun z => h1 (.inl (z ▸ hcA))
        refine (hide_of (fun z => ?_)).trans (e2.at' na h2)
        rcases z with (z | rfl) | z
        · exact h1 (.inl z)
        · rw [hA] at h2; cases h2
        · exact h1 (.inr z)
      have rp : Rep hs hid' own H'' (wipe σ vs) (wipeR ρ vs) := by
        have r1 := c1.rep.wipe vs
        have r2 := c2.rep.wipe vs
        refine ⟨r2.ex, fun a h => ?_, fun j a h => ⟨(r2.new j a h).1, ?_⟩, r2.inj, r2.len, fun j s h => ?_⟩
        · rcases h with (h | rfl) | h
          · exact r2.occ a (.inl h)
          · rw [hacc]; exact fun z => nomatch z
          · exact r2.occ a (.inr h)
        · rintro (z | z)
          · exact (r2.new j a h).2 z
          · exact ownA j a h z
        · obtain ⟨v, h1, h2⟩ := r1.get j s h
          refine ⟨v, h1, ?_⟩
          refine h2.lift (fun x a _ ha => ⟨ha, ?_⟩) hB
          cases w : H1 a with
          | none => exact absurd w (r1.occ a (.inr ⟨x, ha⟩))
          | some o => exact e2.at' (c1.ownNe ha) w
      have cp : Cn D hs hid' own H'' (wipe σ vs) (wipeR ρ vs) kk := ⟨rp, r.nc, fun a h => .inl (r.hin a h), hst⟩
      refine hg.go hs hid' own H'' _ _ _ _ _ _ rp (hxs.mono hB) hp fun σ2 ρ2 p2 r2 o2 => ⟨(o2 vs hv.out).trans (wipe_wipe σ vs), ?_⟩
      refine hc.go hs hid' own H'' σ2 ρ2 kk _ _ (cp.set r2 hst) p2 fun n3 b H3 p3 c3 e3 => ?_
      have acc3 : H3 A = some (.lst acc) := e3.at' cA.symm hacc
      cases b with
      | false => exact iteF ⟨n3, acc, ys, e2.trans e3, c3.st, acc3, by omega, hys.mono (e3.bh (.inl hcA)), by simpa using p3⟩
      | true =>
        refine iteT (he.go hs hid' own H3 σ2 ρ2 n3 _ _ c3 (by simpa using p3) fun n4 s y H4 p4 c4 e4 q4 => ?_)
        have e34 := e3.trans e4
        have hacc4 := e4.at' cA.symm acc3
        unfold asDs at p4
        split at p4
        · rename_i ds hds
          have hd1 : DdAll (Bh hid' own H4) [y] ds := ReAll.dd (.cons q4 .nil) hds
          have hup : Ex (Bh hid' own H4) (Bh hid' own (upd H4 A (.lst (acc ++ [y])))) := hide_upd (.inl (.inr rfl))
          refine ⟨acc, hacc4, Evl.sz_lt (by omega), n4, acc ++ [y], ys ++ ds, ?_, ?_, upd_same, by simp; omega, ((hys.mono (e34.bh (.inl hcA))).app hd1).mono hup, ?_⟩
          · intro a o h
            obtain ⟨na, h⟩ := hide_some h
            have ne : a ≠ A := fun z => by rw [z, hA] at h; cases h
            rw [upd_ne ne]
            exact (e2.trans e34).at' na h
          · refine D.keep (fun a o ia h => ?_) c4.st
            have ne : a ≠ A := fun z => nA (.inl (z ▸ r.hin a ia))
            rw [upd_ne ne]
            exact h
          · simpa using p4
        · exact p4.elim
  · have hn2 : n = xs.length := by omega
    subst hn2
    rw [List.drop_of_length_le (Nat.le_refl _)] at hp
    have hp2 : Pd kk ys := by simpa [nComp] using hp
    have hnA : H A = none := by
      cases q : H A with
      | none => rfl
      | some o => rw [e1.at' cA.symm q] at hA; cases hA
    refine .inl ⟨hJ.stop H' (e2.bhx hcA), k kk _ A _ H' hp2 c2 (e1.trans e2) hnA hacc (hys.mono (hide_le fun b z => ?_))⟩
    rcases z with (z | z) | z
    · exact .inl (.inl z)
    · exact .inr z
    · exact .inl (.inr z)⟩
instance (priority := 2900) lsn_own2 {i : Nat} {t : TE} {w : WFn} [h : LFn D t w] : LSn D (tOwn i t) (nOwn i w) := ⟨fun hs hid X E own H σ ρ n k r hw => by
  refine h.go hs hid own H σ ρ n _ _ r hw fun n1 ds a vs H' p c e hn ha t => ?_
  exact k.nx _ H' _ _ n1 p (r.own_new i c e hn ha t)⟩
instance (priority := 2900) lsn_if2 {c : TT} {t u : TS} {wc : WTn} {a b : WSn} [hc : LTn D c wc] [ha : LSn D t a] [hb : LSn D u b] : LSn D (tIfS c t u) (nIfS wc a b) := ⟨fun hs hid X E own H σ ρ n k r hw => by
  refine hc.go hs hid own H σ ρ n _ _ r hw fun n1 c H' p c1 e => ?_
  cases c with
  | true => exact iteT (ha.go hs hid X E own H' σ ρ n1 k c1 (by simpa using p))
  | false => exact iteF (hb.go hs hid X E own H' σ ρ n1 k c1 (by simpa using p))⟩
instance (priority := 2900) lsn_seq2 {t u : TS} {a b : WSn} [ha : LSn D t a] [hb : LSn D u b] : LSn D (tSeq t u) (nSeq a b) := ⟨fun hs hid X E own H σ ρ n k r hw =>
  ha.go hs hid { X with nx := u X } { E with nx := b E } own H σ ρ n ⟨fun own H σ ρ n p r => hb.go hs hid X E own H σ ρ n k r p, k.bk, k.ct, k.rt⟩ r hw⟩
theorem ncomp_lift {g : WG} {c : WT} {e : WE} {ρ : Ro} {xs : List SV} {n : Nat} {P : Nat → List PyData → Prop} : nComp g (nT c) (nE e) ρ xs n P = wComp g c e ρ xs (P n) := by
  induction xs generalizing P with
  | nil => rfl
  | cons x r ih => simp only [nComp, wComp, nT, nE, ih]
end
/-! ### the drawer is made -/
def spLm (F : Dw → Prop) (K : PySem.W.Frag) : Sp := fun vs H Q _ => ∃ (a : Addr) (ns : List Int), vs = [.ref a] ∧ SqL K H a (ns.map V.int) ∧ ns.length ≤ 63 ∧ ∀ (D : Dw) H', F D → Ex H H' → (∀ b, D.In b → H b = none) → D.At H' 0 → Q (.ref D.c) H'
/-- a drawer with its word that it is one (a goal of instances keeps no instance of its own) -/
structure Fam (F : Dw → Prop) where
  D : Dw
  out : F D
instance {F : Dw → Prop} {D : Fam F} : IsFam F D.D := ⟨D.out⟩
def nOpen (F : Dw → Prop) (K : PySem.W.Frag) (i : Nat) (a : WA) (b : Fam F → WSn) : WS := fun E ρ => a ρ fun ss => ss = [.o (scrM K)] ∧ ∀ D : Fam F, b D { nx := fun _ => E.nx, rt := fun _ => E.rt, bk := fun _ => E.bk, ct := fun _ => E.ct } 0 (ρ.set i (some (.ref D.D.c)))
instance (priority := 5000) ls_open {F : Dw → Prop} {K : PySem.W.Frag} {i : Nat} {t : TA} {u : TS} {a : WA} {b : Fam F → WSn} [ha : LA t a] [hb : ∀ D : Fam F, LSn D.D u (b D)] : LS (tSeq (tAsg (tCall (spLm F K) [] E0 t) (gName i)) u) (nOpen F K i a b) := ⟨fun hs hid X E own H σ ρ k r hw => by
  refine ha.go hs hid own H σ ρ _ _ r hw fun ss vs H1 p e1 q => ?_
  obtain ⟨rfl, p⟩ := p
  rw [List.append_nil]
  cases q with
  | cons q1 q =>
    cases q
    obtain ⟨x, ns, rfl, hS, hl⟩ := q1
    refine ⟨x, ns, rfl, Evl.ex_l hide_ex hS, hl, fun D H2 hF e2 hnew hst => ?_⟩
    haveI : IsFam F D := ⟨hF⟩
    have r1 := r.mono e1
    have hcn : H1 D.c = none := hnew _ D.cIn
    let hid' : Addr → Prop := fun a => hid a ∨ D.In a
    have notIn : ∀ b o, H1 b = some o → ¬ D.In b := fun b o h z => by rw [hnew b z] at h; cases h
    have hB : Ex (Bh hid own H1) (Bh hid' own H2) := fun b o h => by
      obtain ⟨h1, h2⟩ := hide_some h
      refine (hide_of (fun z => ?_)).trans (e2 _ _ h2)
      rcases z with (z | z) | z
      · exact h1 (.inl z)
      · exact notIn b o h2 z
      · exact h1 (.inr z)
    have ownNot : ∀ x b, own x = some b → ¬ D.In b := fun x b h z => r1.occ b (.inr ⟨x, h⟩) (hnew b z)
    have rp : Rep hs hid' own H2 σ ρ := by
      refine ⟨r1.ex.trans e2, fun b h => ?_, fun j b h => ⟨(r1.new j b h).1, ?_⟩, r1.inj, r1.len, fun j s h => ?_⟩
      · rcases h with (h | h) | h
        · exact ne_none_mono e2 (r1.occ b (.inl h))
        · exact D.occ h hst
        · exact ne_none_mono e2 (r1.occ b (.inr h))
      · rintro (z | z)
        · exact (r1.new j b h).2 z
        · exact ownNot j b h z
      · obtain ⟨v, h1, h2⟩ := r1.get j s h
        exact ⟨v, h1, h2.lift (fun x b _ hb => r1.keeps e2 x b hb) hB⟩
    have rq : Rep hs hid' own H2 (σ.set i (some (.ref D.c))) (ρ.set i (some (.ref D.c))) := rp.put i (s := .ref D.c) rfl
    have less : ∀ {own' : Ix → Option Addr} {H' : Hp} {σ' : L2.St} {ρ' : Ro}, Rep hs hid' own' H' σ' ρ' → Rep hs hid own' H' σ' ρ' := fun {own' H' σ' ρ'} r' => by
      have hB : Ex (Bh hid' own' H') (Bh hid own' H') := hide_le fun a h => h.elim (fun z => .inl (.inl z)) .inr
      refine ⟨r'.ex, fun b h => r'.occ b (h.elim (fun z => .inl (.inl z)) .inr), fun j b h => ⟨(r'.new j b h).1, fun z => (r'.new j b h).2 (.inl z)⟩, r'.inj, r'.len, fun j s h => ?_⟩
      obtain ⟨v, h1, h2⟩ := r'.get j s h
      exact ⟨v, h1, h2.lift (fun x b _ hb => ⟨hb, rfl⟩) hB⟩
    refine (hb ⟨D, hF⟩).go hs hid' X _ own H2 _ _ 0 ⟨fun own' H' σ' ρ' m p r' => k.nx own' H' σ' ρ' p (less r'.rep), fun own' H' σ' ρ' m p r' => k.bk own' H' σ' ρ' p (less r'.rep), fun own' H' σ' ρ' m p r' => k.ct own' H' σ' ρ' p (less r'.rep), fun m s v H' p e _ q => k.rt s v H' p e (q.mono (hide_le fun a h => .inl h))⟩ ⟨rq, Evl.fresh_back r1.ex hcn, fun a h => .inr h, hst⟩ (p ⟨D, hF⟩)⟩
/-! ### from the head -/
section
variable {ρ r : Ro} {i j l n : Nat} {e a b : WEn} {E : PEn} {P : Nat → SV → Prop} {aa : WAn} {w : WFn} {ww : WSn}
theorem k_nLc {wi : WIn} {g : WG} {c : WTn} {vs : List Nat} : nLc wi g c e vs n ρ P = wi n ρ fun n1 xs => xs.length ≤ 100000 ∧ wipeK ρ vs fun ρ' => nComp g c e ρ' xs n1 fun m ys => P m (.d (.list ys)) := rfl
theorem k_nPar : nPar i j aa E n ρ = aa n ρ fun n1 ss => as2 ss fun x y => setK ρ i (some x) fun ρ' => setK ρ' j (some y) (E.nx n1) := rfl
theorem k_nPar3 : nPar3 i j l aa E n ρ = aa n ρ fun n1 ss => as3 ss fun x y z => setK ρ i (some x) fun ρ' => setK ρ' j (some y) fun ρ2 => setK ρ2 l (some z) (E.nx n1) := rfl
theorem k_nParN {k : Nat} {is : List Nat} : nParN k is aa E n ρ = (is.length = k ∧ k ≤ 1000 ∧ aa n ρ fun n1 ss => ss.length = k ∧ setAllK ρ is ss (E.nx n1)) := rfl
theorem k_nApp : nApp i e E n ρ = getO ρ i fun ds => ds.length < 100000 ∧ e n ρ fun n1 y => asDs [y] fun d => setK ρ i (some (.own (ds ++ d))) (E.nx n1) := rfl
theorem k_nAppPop : nAppPop i j e E n ρ = (i ≠ j ∧ getO ρ i fun ds => getO ρ j fun es => ds.length < 100000 ∧ e n ρ fun n1 x => asI x fun m => 0 ≤ m ∧ m ≤ 1000000 ∧ ∃ d, es[m.toNat]? = some d ∧ setK ρ j (some (.own (es.eraseIdx m.toNat))) fun ρ' => setK ρ' i (some (.own (ds ++ [d]))) (E.nx n1)) := rfl
theorem k_nPut : nPut i a b E n ρ = getO ρ i fun ds => a n ρ fun n1 y => asD y fun d => b n1 ρ fun n2 x => asI x fun j => ∃ m, ixN ds.length j = some m ∧ setK ρ i (some (.own (ds.set m d))) (E.nx n2) := rfl
theorem k_nFlc {wi : WIn} {g : WG} {c : WTn} {vs : List Nat} {Pf : Nat → List PyData → Prop} : nFlc wi g c e vs n ρ Pf = wi n ρ fun n1 xs => xs.length ≤ 100000 ∧ wipeK ρ vs fun ρ' => nComp g c e ρ' xs n1 Pf := rfl
theorem asL2_l {ds : List PyData} {Pl : List PyData → Prop} : asL2 (.d (.list ds)) Pl = Pl ds := rfl
theorem k_nOwn : nOwn i w E n ρ = w n ρ fun n1 ds => setK ρ i (some (.own ds)) (E.nx n1) := rfl
theorem k_nRel : nRel i ww E n ρ = getO ρ i fun ds => setK ρ i (some (.d (.list ds))) fun ρ' => ww E n ρ' := rfl
theorem k_nOpen {F : Dw → Prop} {K : PySem.W.Frag} {a : WA} {b : Fam F → WSn} {E : PEnds} : nOpen F K i a b E ρ = a ρ fun ss => ss = [.o (scrM K)] ∧ ∀ D : Fam F, setK ρ i (some (.ref D.D.c)) fun ρ' => b D { nx := fun _ => E.nx, rt := fun _ => E.rt, bk := fun _ => E.bk, ct := fun _ => E.ct } 0 ρ' := rfl
end
end Lr

namespace Lr
open PySem L2
/-! ### loops and comprehensions that draw -/
section
variable {g : WG} {c : WTn} {e : WEn} {ρ : Ro} {n : Nat}
def nStep (g : WG) (c : WTn) (e : WEn) (ρ : Ro) (x : SV) (n : Nat) (K : Nat → Option PyData → Prop) : Prop := g x ρ fun ρ' => c n ρ' fun n1 b => if b = true then e n1 ρ' (fun n2 y => asD y fun d => K n2 (some d)) else K n1 none
theorem ncomp_cons {x : SV} {r : List SV} {P : Nat → List PyData → Prop} : nComp g c e ρ (x :: r) n P = nStep g c e ρ x n fun m o => nComp g c e ρ r m fun m2 ys => P m2 (o.toList ++ ys) := by
  unfold nStep
  rw [nComp]
  simp only [asDs_one, Option.toList_some, Option.toList_none, List.nil_append]
/-- whatever comes, of one kind, with at most k draws each -/
theorem ncomp_any (k : Nat) {xs : List SV} (M : PyData → Prop) {P : Nat → List PyData → Prop} (h : ∀ x ∈ xs, ∀ m, m + k ≤ n + k * xs.length → ∀ K : Nat → Option PyData → Prop, (∀ m' d, m' ≤ m + k → M d → K m' (some d)) → nStep g c e ρ x m K)
    (hp : ∀ m ys, m ≤ n + k * xs.length → ys.length = xs.length → (∀ y ∈ ys, M y) → P m ys) : nComp g c e ρ xs n P := by
  induction xs generalizing P n with
  | nil => exact hp n [] (by simp) rfl (fun y hy => by cases hy)
  | cons x r ih =>
    have el : k * (x :: r).length = k * r.length + k := by rw [List.length_cons, Nat.mul_succ]
    rw [ncomp_cons]
    refine h x (by simp) n (by omega) _ fun m' d hm hd => ih (fun y hy m hm2 => h y (by simp [hy]) m (by omega)) fun m ys hm3 hl hy => ?_
    refine hp m (d :: ys) (by omega) (by simp [hl]) fun y hm => ?_
    rcases List.mem_cons.mp hm with rfl | hm
    · exact hd
    · exact hy y hm
theorem nfor_inv {g : WG} {b : WSn} {xs : List SV} {E : PEn} {ρ : Ro} (I : Nat → Nat → Ro → Prop) (h0 : I 0 n ρ)
    (hs : ∀ i x m ρ', xs[i]? = some x → I i m ρ' → ∀ N : Nat → Ro → Prop, (∀ m' ρ2, I (i + 1) m' ρ2 → N m' ρ2) → g x ρ' fun ρ2 => b { E with nx := N, ct := N, bk := E.nx } m ρ2) (hd : ∀ m ρ', I xs.length m ρ' → E.nx m ρ') : nFor g b xs E n ρ := by
  have key : ∀ (i m : Nat) (ρ : Ro), i ≤ xs.length → I i m ρ → nFor g b (xs.drop i) E m ρ := by
    intro i
    induction h : xs.length - i generalizing i with
    | zero =>
      intro m ρ hn hi
      have e : i = xs.length := by omega
      subst e
      rw [List.drop_length]
      exact hd m ρ hi
    | succ j ih =>
      intro m ρ hn hi
      have lt : i < xs.length := by omega
      rw [List.drop_eq_getElem_cons lt]
      exact hs i xs[i] m ρ (List.getElem?_eq_getElem lt) hi _ fun m' ρ2 h2 => ih (i + 1) (by omega) m' ρ2 (by omega) h2
  have := key 0 n ρ (Nat.zero_le _) h0
  simpa using this
theorem nfor_all (k : Nat) {g : WG} {b : WSn} {xs : List SV} {E : PEn} {ρ : Ro} (I : Ro → Prop) (h0 : I ρ)
    (hs : ∀ x ∈ xs, ∀ m ρ', m + k ≤ n + k * xs.length → I ρ' → ∀ N : Nat → Ro → Prop, (∀ m' ρ2, m' ≤ m + k → I ρ2 → N m' ρ2) → g x ρ' fun ρ2 => b { E with nx := N, ct := N, bk := E.nx } m ρ2) (hd : ∀ m ρ', m ≤ n + k * xs.length → I ρ' → E.nx m ρ') : nFor g b xs E n ρ :=
  nfor_inv (fun i m ρ => m ≤ n + k * i ∧ I ρ) ⟨by omega, h0⟩ (fun i x m ρ' hx hi N hN => by
    have lt : i + 1 ≤ xs.length := (List.getElem?_eq_some_iff.mp hx).1
    have h1 : k * (i + 1) ≤ k * xs.length := Nat.mul_le_mul_left k lt
    have h2 : k * (i + 1) = k * i + k := Nat.mul_succ _ _
    have h3 := hi.1
    refine hs x (List.mem_of_getElem? hx) m ρ' (by omega) hi.2 N fun m' ρ2 hm h4 => hN m' ρ2 ⟨?_, h4⟩
    omega) fun m ρ' hi => hd m ρ' hi.1 hi.2
end
end Lr

namespace Lr
open PySem L2 PySem.Spec PyProof.Rows HotX
/-! ### defs to which a caught error is handed -/
abbrev SpE := Addr → Value → Option Addr → Sp
/-- what such a def promises: the error's object is pinned -/
structure FnE (P : Program) (w : World) (K : PySem.W.Frag) (mg : Str → Option Value) (base : Heap) (k : Nat) (f : Addr) (fd : FuncData) (ps : List Str) (sp : SpE) : Prop where
  many : ∀ er cls d vs H Q E, sp er cls d vs H Q E → vs.length = ps.length
  go : ∀ (A : Around) (out : List Env) (s0 : Shared) (G : Hp) (bag : Args) (us : List Value) (ws : List V) (Q : VK) (E : XK) (p : Addr × Obj) (cls : Value) (d : Option Addr), L2H.RoomH k A → L2H.PinOk out G s0 p → Zc cls d p.2 → (∃ zs, p.2.data = .fields zs) →
    Env0 P w K mg base A out s0 G → BindsTo s0 fd bag (ps.zip us) → Vals ws us → sp p.1 cls d ws G Q E → codeAny (model P w) A (.call (.ref f) bag) (CR CX0 out P w G s0 Q E) s0
theorem fnE_of {P : Program} {w : World} {K : PySem.W.Frag} {mg : Str → Option Value} {base : Heap} {k : Nat} {f : Addr} {name qual : Str} {par : Arguments} {body : List Stmt} {sco : Scope} {dV kV doc pm cdv ct oc : Value} {an od : Option Addr}
    {osl : Array (Option Value)} {N ps : List Str} {sp : SpE} (lk : K.lookup f = some ⟨oc, od, .func (PySem.W.fnOf name qual par body sco dV kV doc pm an cdv ct), osl⟩) (hcd : PySem.W.codeIn K cdv qual = true) (S : FnScope N ps sco)
    (many : ∀ er cls d vs H Q E, sp er cls d vs H Q E → vs.length = ps.length)
    (hb : ∀ (A : Around) (out : List Env) (s0 : Shared) (G : Hp) (ws : List V) (Q : VK) (E : XK) (p : Addr × Obj) (cls : Value) (d : Option Addr), L2H.RoomH k (A.deeper (envOfC qual sco s0.heap.objs.size f cdv)) → Zc cls d p.2 → (∃ zs, p.2.data = .fields zs) → sp p.1 cls d ws G Q E →
      ∃ t, PSs (L2H.cxH CX0 P w K mg base N qual sco f cdv A out s0 G E p) body t ∧ t { nx := fun _ G' => Q .non G', rt := Q } (L2.start N ws) G) :
    FnE P w K mg base (k + 1) f (PySem.W.fnOf name qual par body sco dV kV doc pm an cdv ct) ps sp := by
  refine ⟨many, fun A out s0 G bag us ws Q E p cls d room pin hz hf e0 bnd rel want => ?_⟩
  have cnt := many _ _ _ _ _ _ _ want
  have inK : K.In s0.heap := e0.mod.kin.keeps fun c u z => (e0.bs c u z).1
  have free : s0.heap.NoLimit := e0.mod.nolimit.keeps fun c u z => (e0.bs c u z).1
  refine codeAny_call_function room.depth (inK _ _ lk) rfl S.co S.gen rfl (PySem.W.codeRec_of inK hcd) (bnd _ _ _ _ ?_)
  refine wpAny_newFunctionEnv_cells S.kind (fun y hy => ?_) fun env he s1 made => ?_
  · obtain ⟨n, v⟩ := y
    rcases S.par n (List.of_mem_zip hy).1 with z | z
    · exact .inl z
    · exact .inr ⟨z, PySem.W.cellsFrom_some _ _ _ (.inl z)⟩
  · subst he
    refine ⟨free.keeps made.toInCall.keep, codeAny_func ?_⟩
    obtain ⟨t, ht, ask⟩ := hb A out s0 G ws Q E p cls d (room.deeper _) hz hf want
    have J := L2H.inv_startH (CX := CX0) (E := E) (K := K) (mg := mg) (base := base) (P := P) (w := w) (f := f) (cd := cdv) S pin e0 cnt rel made
    refine wpAny_mono (ht.run [] s1 (L2.start N ws) G _ J ask) (fun fl s2 got => ?_) fun _ _ z => z
    cases fl with
    | ret u =>
      obtain ⟨v, σ2, G2, J2, rv, q⟩ := got
      exact ⟨v, G2, J2.os, J2.bare, J2.base, J2.hok, rv, q⟩
    | next =>
      obtain ⟨σ2, G2, J2, q⟩ := got
      exact ⟨V.non, G2, J2.os, J2.bare, J2.base, J2.hok, rfl, q⟩
    | brk => exact got.choose_spec.choose_spec.2.elim
    | cont => exact got.choose_spec.choose_spec.2.elim
/-- such a def by its reading -/
theorem okE {P : Program} {w : World} {K : PySem.W.Frag} {mg : Str → Option Value} {base : Heap} {x qual : Str} {st : Stmt} {f : Addr} {fd : FuncData} {N ps : List Str} {k : Nat} {R : Addr → Value → Option Addr → RR} (F : Fun K x qual st f fd) (S : FnScope N ps (defScope st))
    (hbody : ∀ (cdv : Value) (A : Around) (out : List Env) (s : Shared) (H : Hp) (E : XK) (er : Addr) (oe : Obj) (cls : Value) (d : Option Addr), L2H.RoomH k (A.deeper (envOfC qual (defScope st) s.heap.objs.size f cdv)) → Zc cls d oe → (∃ zs, oe.data = .fields zs) →
      ∃ t w', PSs (L2H.cxH CX0 P w K mg base N qual (defScope st) f cdv A out s H E (er, oe)) (defBody st) t ∧ LS t w' ∧ ∀ ss Pd, ss.length = ps.length → R er cls d ss Pd → w' { nx := fun _ => Pd (.d .none), rt := Pd } (ss.map some ++ List.replicate (N.length - ss.length) none)) :
    FnE P w K mg base (k + 1) f fd ps (fun er cls d => spQ ps.length (R er cls d)) := by
  obtain ⟨oc, od, kV, doc, pm, an, cdv, ct, osl, rfl, lk, hcd⟩ := F.ex
  refine fnE_of lk hcd S (fun er cls d vs H Q E h => ?_) fun A out s0 G ws Q E p cls d room hz hf h => ?_
  · obtain ⟨hid, ss, Pd, h1, _, h2, _⟩ := h
    rw [h2.len]; exact h1
  · obtain ⟨er, oe⟩ := p
    obtain ⟨hid, ss, Pd, h1, ho, h2, hR, kk⟩ := h
    obtain ⟨t, w', ht, hl, hw⟩ := hbody cdv A out s0 G E er oe cls d room hz hf
    refine ⟨t, ht, hl.go G hid _ { nx := fun _ => Pd (.d .none), rt := Pd } (fun _ => none) G _ _ ⟨fun own H' σ ρ p r => ?_, fun own H' σ ρ p r => p.elim, fun own H' σ ρ p r => p.elim, fun s v H' p e q => kk s v H' p e q⟩ (start_rep ho h2) (hw ss Pd h1 hR)⟩
    exact kk (.d .none) .non H' p r.ex .non
def CalE (P : Program) (w : World) (K : PySem.W.Frag) (mg : Str → Option Value) (base : Heap) (k : Nat) (x : Str) (ps : List Str) (sp : SpE) : Prop :=
  ∃ f fd, FnE P w K mg base k f fd ps sp ∧ mg x = some (.ref f) ∧ PySem.W.keepIn K (.ref f) = true ∧ Binds K fd ps []
/-- called in an except suite -/
theorem pe_calE {X : Cx} {er : Addr} {oe : Obj} {cls : Value} {d : Option Addr} {pn : List (Addr × Obj)} {k : Nat} {x : Str} {ps : List Str} {sp : SpE} {e : Expr} {es : List Expr} {t : TA} {p pos : Pos} (C : CalE X.prog X.w X.K X.mg X.base k x ps sp) (room : Room k X.A)
    (hz : Zc cls d oe) (hf : ∃ zs, oe.data = .fields zs) (hg : Gl (X.suite er ((er, oe) :: pn)) x) (ha : PA (X.suite er ((er, oe) :: pn)) (e :: es) t)
    (hdb : (x == ("__debug__" : Str)) = false := by decide) (h1 : starEach (e :: es) X.env = (false, eval e X.env) :: starEach es X.env := by rfl) (h2 : (backTo pos (starEach es X.env)).any (·.1) = false := by rfl) :
    PE (X.suite er ((er, oe) :: pn)) (.Call (.Name x p) (e :: es) [] pos) (tCall (sp er cls d) [] E0 t) := by
  obtain ⟨f, fd, G, m, kp, bn⟩ := C
  refine ⟨fun pins s σ H Q I want => ?_⟩
  refine wpAny_Call_Name_kw (ld_glob I hg m ?_ hdb)
  refine PySem.W.callWith_K (h₀ := X.base) I.ok.mod.kin kp (thn (ha.run pos pins s σ H _ I want) fun us s1 ⟨vs, G1, I1, rel, q⟩ => ⟨I1.kIn, ?_⟩) h1 h2
  have q : sp er cls d (vs ++ []) G1 Q E0 := q
  rw [List.append_nil] at q
  have lu : us.length = ps.length := by rw [← rel.length]; exact G.many _ _ _ _ _ _ _ q
  have bd := bn s1 us I1.kIn (by rw [List.append_nil]; exact lu)
  rw [List.append_nil] at bd
  have pin1 := I1.pin (er, oe) (List.mem_append_left _ List.mem_cons_self)
  have pok : L2H.PinOk (X.suite er ((er, oe) :: pn)).stack G1 s1 (er, oe) := ⟨pin1.1, pin1.2.1, fun z => (List.mem_cons.mp (I1.stkSub er z)).elim pin1.2.2.1 pin1.2.2.2.1, pin1.2.2.2.2⟩
  have roomH : L2H.RoomH k (X.suite er ((er, oe) :: pn)).A := ⟨room.dp, room.un⟩
  refine wpAny_call (codeAny_mono (G.go _ _ s1 G1 ⟨us, []⟩ us vs Q E0 (er, oe) cls d roomH pok hz hf I1.env0 bd rel q) fun r s2 got => ?_)
  cases r with
  | error z => exact (show False from got).elim
  | ok fl =>
    cases fl with
    | ret u => exact I1.after got
    | next => exact (show False from got).elim
    | brk => exact (show False from got).elim
    | cont => exact (show False from got).elim
/-! ### within such a def -/
theorem k_isP {X : Cx} {a : Addr} {oe : Obj} {cls : Value} {d : Option Addr} (hp : (a, oe) ∈ X.pn) (hz : Zc cls d oe) (hf : ∃ vs, oe.data = .fields vs) : CallR X (.builtin "isinstance") (rIsX X.K a cls d) := by
  rintro pins s0 st G xs us Q J rel ⟨C, y, b, rfl, rfl, T, hd, way, q⟩
  have there := (J.pin (a, oe) (List.mem_append_left _ hp)).1
  have nc : PySem.W.notCls oe = true := by obtain ⟨vs, e⟩ := hf; unfold PySem.W.notCls; rw [e]
  obtain ⟨od, inst⟩ : ∃ od, PySem.W.InstAt s0.heap a oe C od := by
    cases e : d with
    | none => exact ⟨none, there, hz.1, nc, by rw [hz.2, e]; trivial⟩
    | some dd =>
      obtain ⟨o, ho⟩ := hd dd e
      obtain ⟨u, hu⟩ := objOk_get (J.hok dd o ho)
      exact ⟨some u, there, hz.1, nc, by rw [hz.2, e]; exact hu⟩
  have Z := PySem.W.kitx_exc (x := a) (ox := oe) (od := od) T.cl T.ga T.gg T.sb T.ca T.sp T.tk T.mr
  cases rel with
  | cons r1 rest =>
    cases rest with
    | cons r2 rest =>
      cases rest
      cases r1
      have fin : ∀ tk, EP X pins st Q (.bool b) { s0 with toks := tk } := fun tk => ⟨.bl b, G, J.kept (t' := tk) fun _ _ z => z, rfl, q⟩
      rcases way with ⟨c, rfl, ek⟩ | ⟨n, rfl, ek⟩ | ⟨p, cs, rfl, sq, ek⟩
      · cases r2
        exact PySem.W.kia_one Z J.kIn inst ek (fun z => nomatch z) fin
      · cases r2
        exact PySem.W.kia_one Z J.kIn inst ek (fun z => nomatch z) fin
      · cases r2
        obtain ⟨its, rv, ⟨⟨cl, dd, dt, sl⟩, ho, hc, n, hdat⟩, _⟩ := J.tuple sq
        simp only at hc hdat
        subst hc hdat
        have e := vals_refs rv
        subst e
        exact PySem.W.kia_tup Z J.kIn inst ho ek (fun z => nomatch z) fin
theorem pe_xp {X : Cx} {a C : Addr} {oe : Obj} {cls : Value} {d : Option Addr} {e : Expr} {te : TE} {pos : Pos} {n : Str} (hp : (a, oe) ∈ X.pn) (T : XfC X.K C) (hno : PySem.W.findIn X.K (.ref C) n = some none)
    (hz : Zc cls d oe) (hf : ∃ vs, oe.data = .fields vs) (he : PE X e te) (hb : attributeBase e n X.env (eval e X.env) = eval e X.env := by rfl) : PE X (.Attribute e n pos) (tXf a cls d C n te) := by
  refine ⟨fun pins s0 st G Q J want => attr_of hb (thn (he.run pins s0 st G _ J want) fun u s1 got => ?_)⟩
  obtain ⟨y, G1, J1, ry, ey, ec, dd, fs, v, ed, ea, look, q⟩ := got
  subst ey ec ed
  obtain rfl : u = Value.ref a := ry
  have there := (J1.pin (a, oe) (List.mem_append_left _ hp)).1
  obtain ⟨zs, hdat⟩ := hf
  obtain ⟨mA, names, rels⟩ : ObjOk X.prog X.w G1 s1.heap dd (.xd fs) := J1.hok dd _ ea
  obtain ⟨od, hod, inl⟩ := lookIn_ns names
  obtain ⟨u, hu, ru⟩ := RelO.some_of (v := v) (o := mA n) (by rw [← look]; exact rels n)
  have inst : PySem.W.InstAt s1.heap a oe C (some od) := ⟨there, hz.1, by unfold PySem.W.notCls; rw [hdat] <;> rfl, by rw [hz.2]; exact hod⟩
  exact HandSPX.exc_get J1.kIn inst T.ga T.gg T.exC (PySem.W.findObj_own T.hdC hno rfl (by rw [inl, hu])) (handed_of ru) ⟨v, G1, J1.tok _, ru, q⟩
theorem _root_.L2H.RoomH.u65 {k : Nat} {A : Around} (r : L2H.RoomH k A) : A.units + 65 < cLine := by have := r.un; omega
theorem _root_.L2H.RoomH.units {k : Nat} {A : Around} (r : L2H.RoomH k A) : A.units + 64 < cLine := by have := r.un; omega
end Lr

namespace Lr
open PySem L2 PySem.Spec PyProof.Rows
/-! ### max(xs, default=y) -/
section
variable {prog : Program} {w : World} {A : Around} {R : Result → Shared → Prop} {I S : Addr} {fp wr : List Addr} {n : Nat} {P : Nat → Value → Prop} {St : Nat → Heap → Prop} {bt : Nat → Nat → Bool} {y : Value}
abbrev mxArgs (I S : Addr) (y : Value) : Args := ⟨[.ref I, .none, .ref S], [("default", y)]⟩
theorem mx_name : (toString "max" ++ toString ".loop" : String) = "max.loop" := by decide
theorem mxd_go (W : PySem.Walks prog w A.in1 I fp wr n P St) (cmp : PySem.CmpOf prog w A.in1 .Gt P bt) (far : S ∉ fp) (m : Nat) : ∀ (j : Nat) (s : Shared) (best : Value) (c : Nat), n - (j + 1) = m → j + 1 ≤ n → St (j + 1) s.heap → P (PySem.argBest bt j) best →
    s.heap.get? S = some { cls := .type "list", dict := none, data := .seq #[best, best] c, slots := #[] } →
    (∀ v h' tk, P (PySem.argBest bt (n - 1)) v → (∀ b o, b ∉ wr → b ≠ S → s.heap.get? b = some o → h'.get? b = some o) → R (.ok (.ret v)) { s with heap := h', toks := tk }) → codeAny (model prog w) A (.builtin "max.loop" (mxArgs I S y)) R s := by
  have out : S ∉ wr := fun z => far (W.sub _ z)
  induction m with
  | zero =>
    intro j s best c e1 e2 st pb there fin
    refine codeAny_builtin PySem.F.entry_max_loop ?_; rw [Around.under_plainId PySem.F.plain_max_loop _]
    show wpAny _ A.in1 (seqItems? (.ref S) >>= _) _ _ s; refine wpAny_bind (wpAny_seqItems there rfl ?_)
    show wpAny _ A.in1 (tryCatch (pyNext (.ref I)) _ >>= _) _ _ s; refine wpAny_bind (wpAny_tryCatch (W.done s _ _ ((show j + 1 = n by omega) ▸ st) fun h1 tk k1 => ?_))
    have t1 := k1 S _ out there
    show wpAny _ A.in1 (updateSeq S (fun _ => #[]) >>= _) _ _ _; refine wpAny_bind (wpAny_updateSeq t1 rfl (wpAny_bind (wpAny_letGo (wpAny_pure ?_))))
    exact fin best _ tk (by rw [show n - 1 = j by omega]; exact pb) fun b o nb ns z => (Heap.get?_update_other _ _ (Ne.symm ns)).trans (k1 b o nb z)
  | succ m ih =>
    intro j s best c e1 e2 st pb there fin
    have more : j + 1 < n := by omega
    refine codeAny_builtin PySem.F.entry_max_loop ?_; rw [Around.under_plainId PySem.F.plain_max_loop _]
    show wpAny _ A.in1 (seqItems? (.ref S) >>= _) _ _ s; refine wpAny_bind (wpAny_seqItems there rfl ?_)
    show wpAny _ A.in1 (tryCatch (pyNext (.ref I)) _ >>= _) _ _ s; refine wpAny_bind (wpAny_tryCatch (W.item (j + 1) s _ _ more st fun v h1 tk pv st1 k1 => ?_))
    have t1 := k1 S _ out there
    show wpAny _ A.in1 (tryCatch (holding [v, v] (richCompare .Gt v best >>= _)) _ >>= _) _ _ _
    refine wpAny_bind (wpAny_tryCatch (wpAny_holding (wpAny_bind (cmp (j + 1) (PySem.argBest bt j) v best _ _ _ pv pb (wpAny_bind (wpAny_holding (wpAny_truthy_bool (wpAny_bind (wpAny_letGo (wpAny_pure ?_))))))))))
    cases hb : bt (j + 1) (PySem.argBest bt j) with
    | true =>
      simp only [if_true]
      refine wpAny_bind (wpAny_updateSeq t1 rfl (wpAny_bind (wpAny_letGo ?_)))
      rw [mx_name]
      refine wpAny_pure ⟨PySem.plainId_quiet PySem.F.plain_max_loop _, ih (j + 1) _ v _ (by omega) more (W.frame _ _ _ st1 fun b hbf o z => ?_) (by simp only [PySem.argBest, hb, if_true]; exact pv) (Heap.get?_update_self _ t1 rfl) fun v2 h2 tk2 p2 k2 => ?_⟩
      · exact (Heap.get?_update_other _ _ (fun q : S = b => far (q ▸ hbf))).trans z
      · exact fin v2 h2 tk2 p2 fun b o nb ns z => k2 b o nb ns ((Heap.get?_update_other _ _ (Ne.symm ns)).trans (k1 b o nb z))
    | false =>
      simp only [Bool.false_eq_true, if_false]
      refine wpAny_bind (wpAny_letGo ?_); rw [mx_name]
      refine wpAny_pure ⟨PySem.plainId_quiet PySem.F.plain_max_loop _, ih (j + 1) _ best c (by omega) more st1 (by simp only [PySem.argBest, hb, Bool.false_eq_true, if_false]; exact pb) t1 fun v2 h2 tk2 p2 k2 => ?_⟩
      exact fin v2 h2 tk2 p2 fun b o nb ns z => k2 b o nb ns (k1 b o nb z)
theorem mxd_start (W : PySem.Walks prog w A.in1 I fp wr n P St) (cmp : PySem.CmpOf prog w A.in1 .Gt P bt) (far : S ∉ fp) {s : Shared} {c : Nat} (st : St 0 s.heap) (there : s.heap.get? S = some { cls := .type "list", dict := none, data := .seq #[] c, slots := #[] })
    (none_ : n = 0 → ∀ h' tk, (∀ b o, b ∉ wr → b ≠ S → s.heap.get? b = some o → h'.get? b = some o) → R (.ok (.ret y)) { s with heap := h', toks := tk })
    (fin : 0 < n → ∀ v h' tk, P (PySem.argBest bt (n - 1)) v → (∀ b o, b ∉ wr → b ≠ S → s.heap.get? b = some o → h'.get? b = some o) → R (.ok (.ret v)) { s with heap := h', toks := tk }) : codeAny (model prog w) A (.builtin "max.loop" (mxArgs I S y)) R s := by
  have out : S ∉ wr := fun z => far (W.sub _ z)
  refine codeAny_builtin PySem.F.entry_max_loop ?_; rw [Around.under_plainId PySem.F.plain_max_loop _]
  show wpAny _ A.in1 (seqItems? (.ref S) >>= _) _ _ s; refine wpAny_bind (wpAny_seqItems there rfl ?_)
  rcases Nat.eq_zero_or_pos n with hn | hn
  · show wpAny _ A.in1 (tryCatch (pyNext (.ref I)) _ >>= _) _ _ s; refine wpAny_bind (wpAny_tryCatch (W.done s _ _ (hn ▸ st) fun h1 tk k1 => ?_))
    refine wpAny_bind (wpAny_rule (wpAny_pure ?_))
    exact none_ hn h1 tk fun b o nb _ z => k1 b o nb z
  · show wpAny _ A.in1 (tryCatch (pyNext (.ref I)) _ >>= _) _ _ s; refine wpAny_bind (wpAny_tryCatch (W.item 0 s _ _ hn st fun v h1 tk pv st1 k1 => ?_))
    have t1 := k1 S _ out there
    show wpAny _ A.in1 (updateSeq S (fun _ => #[v, v]) >>= _) _ _ _; refine wpAny_bind (wpAny_updateSeq t1 rfl ?_)
    rw [mx_name]
    refine wpAny_pure ⟨PySem.plainId_quiet PySem.F.plain_max_loop _, mxd_go W cmp far _ 0 _ v _ rfl hn (W.frame _ _ _ st1 fun b hbf o z => ?_) pv (Heap.get?_update_self _ t1 rfl) fun v2 h2 tk2 p2 k2 => ?_⟩
    · exact (Heap.get?_update_other _ _ (fun q : S = b => far (q ▸ hbf))).trans z
    · exact fin hn v2 h2 tk2 p2 fun b o nb ns z => k2 b o nb ns ((Heap.get?_update_other _ _ (Ne.symm ns)).trans (k1 b o nb z))
end
theorem args_maxD (a y : Value) : argsOk "max" ⟨[a], [(Str.ofString "default", y)]⟩ := by unfold argsOk; kernel_rfl
/-- a built-in function called with keywords -/
theorem call_treeK {prog : Program} {w : World} {A : Around} {E : Value → Shared → Prop} {s : Shared} {id : String} {b : Builtin} {us : List Value} {kw : List (Str × Value)} {Q : Value → Shared → Prop} (hk : builtinKind id = none) (hp : plainId id = true) (hb : entryFor table id = some b) (ha : argsOk id ⟨us, kw⟩)
    (body : wpAny (model prog w) A.in1 (b ⟨us, kw⟩) (fun fin s' => match fin with
      | .done f => (match (Except.ok f : Result) with | .ok (.ret v) => Q v s' | .ok _ => False | .error e => E e s')
      | .again nx => nx.quiet = true ∧ codeAny (model prog w) A nx (fun r s' => match r with | .ok (.ret v) => Q v s' | .ok _ => False | .error e => E e s') s') E s) : wpAny (model prog w) A (call (.builtin id) us kw) Q E s := by
  refine wpAny_call (codeAny_call_builtin hp hb ?_)
  simp only [checkBuiltinCall, hk]
  cases sg : Manifest.signature? id with
  | none => exact wpAny_pure body
  | some sig =>
    have fits : Bind.checkArgs id sig ⟨us, kw⟩ = pure () := by simpa only [argsOk, sg] using ha
    show wpAny _ A.in1 (Bind.checkArgs id sig ⟨us, kw⟩) _ _ s; rw [fits]; exact wpAny_pure body
theorem max_dflt {prog : Program} {w : World} {A : Around} {E : Value → Shared → Prop} {s : Shared} {l : Addr} {its : List Value} {ns : List Int} {y : Value} {Q : Value → Shared → Prop} (calm : A.handled = none) (hl : s.heap.IsList l its.toArray) (hi : IntsAre its ns)
    (none_ : ns = [] → ∀ h' tk, (∀ b o, s.heap.get? b = some o → h'.get? b = some o) → Q y { s with heap := h', toks := tk })
    (fin : ∀ h' tk m t', (∀ b o, s.heap.get? b = some o → h'.get? b = some o) → m ∈ ns → (∀ a, a ∈ ns → a ≤ m) → Q (.int m t') { s with heap := h', toks := tk }) : wpAny (model prog w) A (call (.builtin "max") [.ref l] [(Str.ofString "default", y)]) Q E s := by
  obtain ⟨xs, e⟩ := hi.allInts.items
  have hn : numsOf (PySem.intItems xs).toList = ns := by rw [← e]; exact hi.numsOf
  rw [nums_intItems] at hn
  subst hn
  rw [e] at hl
  refine call_treeK PySem.F.kind_max PySem.F.plain_max PySem.F.entry_max (args_maxD _ _) ?_
  show wpAny _ A.in1 (Builtin.Builtins.bindParams "max" ["key", "default"] 0 ⟨[], [(Str.ofString "default", y)]⟩ >>= _) _ _ s
  refine wpAny_bind (wpAny_of_eq (show Builtin.Builtins.bindParams "max" ["key", "default"] 0 ⟨[], [(Str.ofString "default", y)]⟩ = pure [none, some y] from rfl) ?_)
  refine wpAny_bind (wpAny_pure (wpAny_bind (PySem.iter_intList hl fun s2 es st below apart => ?_)))
  subst es
  refine wpAny_bind (wpAny_newObj_type ?_); rw [mx_name]
  have W := PySem.Walks.list (prog := prog) (w := w) (A := A.in1) calm s.heap.objs.size l apart (PySem.intItems xs)
  have old : ∀ b o, s.heap.get? b = some o → b ∉ [s.heap.objs.size] ∧ b ≠ (s.heap.push { cls := .type "list_iterator", data := .fields #[.ref l, .int 0 0] }).objs.size := fun b o z => by
    have lt := Heap.lt_size z
    have sz : (s.heap.push { cls := .type "list_iterator", data := .fields #[.ref l, .int 0 0] }).objs.size = s.heap.objs.size + 1 := Heap.size_push ..
    exact ⟨fun q => Nat.ne_of_lt lt (List.mem_singleton.mp q), fun q => Nat.ne_of_lt (Nat.lt_succ_of_lt lt) (q.trans sz)⟩
  refine wpAny_pure ⟨PySem.plainId_quiet PySem.F.plain_max_loop _, mxd_start W (PySem.CmpOf.ints_gt (PySem.numAt xs) fun _ _ => PySem.intItems_at) (fun hm => Nat.lt_irrefl _ (below _ hm)) (W.frame _ _ _ st fun b _ o z => Heap.get?_push_of_some _ z) (Heap.get?_push_size _ rfl) (fun n0 h' tk k => ?_) fun pos v h' tk hv k => ?_⟩
  · have x0 : xs = #[] := by simpa [PySem.intItems] using n0
    refine none_ (by rw [x0]; rfl) h' tk fun b o z => ?_
    exact k b o (old b o z).1 (old b o z).2 (Heap.get?_push_of_some _ (Heap.get?_push_of_some _ z))
  · have pos : 0 < xs.size := by simpa [PySem.intItems] using pos
    obtain ⟨t, rfl⟩ := PySem.intItems_at hv
    have is : (PySem.intItems xs).size - 1 = xs.size - 1 := by simp [PySem.intItems]
    rw [is]
    obtain ⟨le, top⟩ := argBest_gt (PySem.numAt xs) (xs.size - 1)
    refine fin h' tk _ t (fun b o z => k b o (old b o z).1 (old b o z).2 (Heap.get?_push_of_some _ (Heap.get?_push_of_some _ z))) ?_ fun a ha => ?_
    · rw [numAt_eq]; exact PySem.getD_mem (show _ < (xs.toList.map (·.1)).length by rw [List.length_map, Array.length_toList]; omega)
    · obtain ⟨j, hj, rfl⟩ := mem_getD ha
      rw [List.length_map, Array.length_toList] at hj; rw [← numAt_eq]; exact top j (by omega)
def rMaxDf (K : PySem.W.Frag) : List V → List V → Hp → VK → Prop := fun xs zs H Q => ∃ a ns y, xs = [.ref a] ∧ zs = [.int y] ∧ SqL K H a (ns.map V.int) ∧ (ns = [] → Q (.int y) H) ∧ ∀ m, m ∈ ns → (∀ z ∈ ns, z ≤ m) → Q (.int m) H
theorem cr_maxDf {X : Cx} {K : PySem.W.Frag} (hK : X.K = K) (hc : X.calm = true) : CallRK X (.builtin "max") [Str.ofString "default"] (rMaxDf K) := by
  subst hK
  intro pins s σ H xs zs us ws Q I r rz h
  obtain ⟨a, ns, y, rfl, rfl, hs, q0, q1⟩ := h
  obtain ⟨its, rv, hl, _⟩ := I.list hs
  obtain rfl := Vals.ref1 r
  obtain ⟨w1, rfl, t, rfl⟩ := vals1 rz
  exact max_dflt (I.ok.hd hc) hl.isList rv.ints (fun z h' tk k => ⟨.int y, H, I.kept k, ⟨_, rfl⟩, q0 z⟩) fun h' tk m t' k h1 h2 => ⟨.int m, H, I.kept k, ⟨_, rfl⟩, q1 m h1 h2⟩
def fMaxD (ss zs : List SV) (P : SV → Prop) : Prop := match ss, zs with
  | [.d (.list a)], [.d (.int y)] => asIs a fun ns => (ns = [] → P (.d (.int y))) ∧ ∀ m, m ∈ ns → (∀ z ∈ ns, z ≤ m) → P (.d (.int m))
  | _, _ => False
def wCKw (f : List SV → List SV → (SV → Prop) → Prop) (a b : WA) : WE := fun ρ P => a ρ fun ss => b ρ fun zs => f ss zs P
instance le_maxD {K : PySem.W.Frag} {t u : TA} {a b : WA} [ha : LAB t a] [hb : LAB u b] : LE (tCKw (rMaxDf K) t u) (wCKw fMaxD a b) := ⟨fun hs hid own H σ ρ P Q r hw k => by
  refine ha.go hs hid own H σ ρ _ _ r hw fun ss vs H1 p e1 q => ?_
  refine hb.go hs hid own H1 σ ρ _ _ (r.mono e1) p fun zs ws H2 p2 e2 q2 => ?_
  unfold fMaxD at p2
  split at p2
  · obtain ⟨v, rfl, rv⟩ := rb1 (q.mono e2)
    obtain ⟨x, vs2, rfl, h1, t1⟩ := rv.list
    obtain ⟨v3, rfl, rv3⟩ := rb1 q2
    rw [rv3.int]
    unfold asIs at p2
    split at p2
    · rename_i ns hn
      have e := t1.ints hn
      subst e
      exact ⟨x, ns, _, rfl, rfl, SqL.of h1, fun z => k _ _ H2 (p2.1 z) (e1.trans e2) (.int _), fun m hm hy => k _ _ H2 (p2.2 m hm hy) (e1.trans e2) (.int _)⟩
    · exact p2.elim
  · exact p2.elim⟩
theorem q_fMaxD {a : List PyData} {y : Int} {P : SV → Prop} : fMaxD [.d (.list a)] [.d (.int y)] P = asIs a fun ns => (ns = [] → P (.d (.int y))) ∧ ∀ m, m ∈ ns → (∀ z ∈ ns, z ≤ m) → P (.d (.int m)) := rfl
end Lr

/-! ### a dict compared with a text -/
namespace PySem.SeqAt
open PySem PySem.Spec PyProof.Rows
theorem dict_eq_declines_str (l : Addr) (kv) (n : Nat) (dd : Option Addr) (sl : Array (Option Value)) (b : Str) (u : Tok) :
    Meets (Builtin.«dict.__eq__» ⟨[.ref l, .str b u], []⟩) (fun _ R s => s.heap.get? l = some { cls := .type "dict", dict := dd, data := .dict kv n, slots := sl } ∧ R (.ok (.ret .notImplemented)) s) :=
  .of_wp fun prog w A R s h => by obtain ⟨hp, g, d, tk, os⟩ := s; obtain ⟨hl, h⟩ := h; have f1 := F.sub_str_dict; wp_walk using wpAny_loadPart' hl; exact ⟨_, rfl, h⟩
theorem str_eq_declines_dict (b : Str) (u : Tok) (l : Addr) (c : Value) (kv) (n : Nat) (dd : Option Addr) (sl : Array (Option Value)) :
    Meets (Builtin.«str.__eq__» ⟨[.str b u, .ref l], []⟩) (fun _ R s => s.heap.get? l = some { cls := c, dict := dd, data := .dict kv n, slots := sl } ∧ R (.ok (.ret .notImplemented)) s) :=
  .of_wp fun prog w A R s h => by obtain ⟨hp, g, d, tk, os⟩ := s; obtain ⟨hl, h⟩ := h; wp_walk using wpAny_loadPart' hl, wpAny_load hl; exact ⟨_, rfl, h⟩
theorem RcAt.dict_str {A : Around} {s : Shared} {l : Addr} {kv} {n : Nat} {dd : Option Addr} {sl : Array (Option Value)} (b : Str) (u : Tok) (ho : s.heap.get? l = some { cls := .type "dict", dict := dd, data := .dict kv n, slots := sl }) (hu : A.units < cLine) : RcAt A s (.ref l) (.str b u) false := fun prog w E Q h => by
  exact rc_eq_decline_or (k := false) ⟨_, ho, rfl⟩ (typeIs_str s b u) (by decide) F.sub_str_dict F.slot_dict_eq F.slot_str_eq_refl
    (fun _ hq => call_meets F.slot_dict_eq ⟨_, ho, rfl⟩ F.entry_dict_eq (F.args_dict_eq_2 _ _) (dict_eq_declines_str l kv n dd sl b u) ⟨ho, hq⟩)
    (fun _ hq => call_meets F.slot_str_eq_refl (typeIs_str s b u) F.entry_str_eq (F.args_str_eq_2 _ _) (str_eq_declines_dict b u l (.type "dict") kv n dd sl) ⟨ho, hq⟩)
    (fun _ hq => wpAny_of_eq (rfl : isSame (.ref l) (.str b u) = pure false) hq) (.inr hu) h
end PySem.SeqAt
namespace Lr
open PySem L2 PySem.Spec PyProof.Rows
/-- any data == a text -/
def rEqT (K : PySem.W.Frag) : R2 := fun x y H Q => rEqD K x y H Q ∨ ∃ a b kvs, x = .ref a ∧ y = .str b ∧ H a = some (.dK kvs) ∧ Q (.bl false) H
theorem ko_eqT {X : Cx} {K : PySem.W.Frag} (hK : X.K = K) (hu : X.A.units + 64 < cLine) : OpR X (compareOp .Eq) (rEqT K) := by
  subst hK
  rintro pn s0 st G x y v u Q J rx ry (h | ⟨a, b, kvs, rfl, rfl, ha, q⟩)
  · exact op_eqD hu pn s0 st G x y v u Q J rx ry h
  · cases rx
    obtain ⟨t, rfl⟩ : ∃ t, u = .str b t := ry
    obtain ⟨_, _, vs, _, o, es, ep, ho, ex, hd, _⟩ : ObjOk X.prog X.w G s0.heap a (.dK kvs) := J.hok a _ ha
    obtain ⟨cls, dd, data, sl⟩ := o
    have hc : cls = .type "dict" := ex.1
    simp only at hd
    subst hc hd
    exact PySem.SeqAt.RcAt.dict_str b t ho (by omega) X.prog X.w _ _ ⟨.bl _, G, J, rfl, q⟩
def fEqT : W2 := fun x y P => match x, y with
  | .d a, .d (.str b) => (shp a = true ∧ shp (.str b) = true ∨ ∃ kvs, a = .dict kvs) ∧ P (.d (.bool (PyData.eqv a (.str b))))
  | _, _ => False
instance do_eqT {K : PySem.W.Frag} : DO (rEqT K) fEqT := ⟨fun hid own H x y sx sy P Q ho rx ry hf k => by
  unfold fEqT at hf
  split at hf
  · obtain ⟨way, hf⟩ := hf
    rcases way with way | ⟨kvs, rfl⟩
    · exact .inl ⟨_, _, rx.dd.dp (shp_lay way.1), ry.dd.dp (shp_lay way.2), shp_sh way.1, shp_sh way.2, k _ _ H hf (Evl.Ex.refl H) (.bl _)⟩
    · have e : ∀ b : Str, PyData.eqv (.dict kvs) (.str b) = false := fun b => by simp [PyData.eqv]
      rw [e] at hf
      have hy := ry.dd
      have hx := rx.dd
      cases hy
      cases hx with
      | dic h1 _ => exact .inr ⟨_, _, _, rfl, rfl, h1, k _ _ H hf (Evl.Ex.refl H) (.bl _)⟩
  · exact hf.elim⟩
end Lr

namespace Lr
open PySem L2
/-! ### how long a text shows it, how deep it is -/
structure Sh (m k : Nat) (d : PyData) : Prop where
  sh : d.showable = true
  len : d.shown.length ≤ m
  dep : d.depth ≤ k
theorem Sh.mono {m k m' k' : Nat} {d : PyData} (h : Sh m k d) (hm : m ≤ m') (hk : k ≤ k') : Sh m' k' d := ⟨h.sh, Nat.le_trans h.len hm, Nat.le_trans h.dep hk⟩
theorem Sh.fit {m k : Nat} {d : PyData} (h : Sh m k d) (hm : m ≤ 1000000) (hk : k ≤ 60) : Fit d := ⟨h.sh, Nat.le_trans h.len (Nat.le_trans hm (by decide)), Nat.le_trans h.dep hk⟩
theorem sh_all {m k : Nat} : ∀ {es : List PyData}, (∀ e ∈ es, Sh m k e) → PyData.showableAll es = true ∧ ((PyData.shownAll es).map (·.length)).sum ≤ m * es.length ∧ PyData.depthAll es ≤ k
  | [], _ => by simp [PyData.showableAll, PyData.shownAll, PyData.depthAll]
  | x :: r, h => by
    obtain ⟨a, b, c⟩ := sh_all (es := r) fun y hy => h y (by simp [hy])
    have hx := h x (by simp)
    have h1 := hx.len
    have h2 := hx.dep
    refine ⟨by simp [PyData.showableAll, hx.sh, a], ?_, by simp only [PyData.depthAll]; omega⟩
    simp only [List.map_cons, PyData.shownAll, List.sum_cons, List.length_cons, Nat.mul_add, Nat.mul_one]
    omega
theorem sh_tup {m k c : Nat} {es : List PyData} (h : ∀ e ∈ es, Sh m k e) (hc : es.length ≤ c) : Sh (c * (m + 2) + 3) (k + 1) (.tuple es) := by
  obtain ⟨a, b, e⟩ := sh_all h
  refine ⟨by simpa [PyData.showable] using a, ?_, by simp only [PyData.depth]; omega⟩
  simp only [PyData.shown]
  have t := tupleText_len_le (PyData.shownAll es)
  rw [PyData.shownAll_length] at t
  have q : m * es.length + 2 * es.length ≤ c * (m + 2) := by
    rw [← Nat.add_mul, Nat.mul_comm, Nat.add_comm m 2, Nat.add_comm 2 m]
    exact Nat.mul_le_mul_right _ hc
  omega
theorem sh_lst {m k c : Nat} {es : List PyData} (h : ∀ e ∈ es, Sh m k e) (hc : es.length ≤ c) : Sh (c * (m + 2) + 3) (k + 1) (.list es) := by
  obtain ⟨a, b, e⟩ := sh_all h
  refine ⟨by simpa [PyData.showable] using a, ?_, by simp only [PyData.depth]; omega⟩
  simp only [PyData.shown]
  have t := listText_len_le (PyData.shownAll es)
  rw [PyData.shownAll_length] at t
  have q : m * es.length + 2 * es.length ≤ c * (m + 2) := by
    rw [← Nat.add_mul, Nat.mul_comm, Nat.add_comm m 2, Nat.add_comm 2 m]
    exact Nat.mul_le_mul_right _ hc
  omega
theorem small_show {i : Int} (h : i.natAbs < 10 ^ 12) : (PyData.int i).showable = true := by
  simp only [PyData.showable, decide_eq_true_eq]
  have h1 : i.natAbs < 2 ^ 40 := Nat.lt_trans h (by decide)
  have := PySem.Flt.log2_lt_of (k := 40) (by decide) h1
  omega
theorem int_sh {i : Int} (h : i.natAbs < 10 ^ 12) : Sh 20 0 (.int i) := ⟨small_show h, Nat.le_trans (PyData.shown_int_le h) (by decide), by simp [PyData.depth]⟩
theorem bool_sh (b : Bool) : Sh 20 0 (.bool b) := by
  cases b <;> exact ⟨by decide +kernel, by decide +kernel, by decide +kernel⟩
theorem two_fit {a d : PyData} (ha : Sh 100000 6 a) (hd : Sh 100000 6 d) : Fit (.list [a, d]) :=
  (sh_lst (es := [a, d]) (c := 2) (m := 100000) (k := 6) (fun e he => by
    simp only [List.mem_cons, List.not_mem_nil, or_false] at he
    rcases he with rfl | rfl
    · exact ha
    · exact hd) (Nat.le_refl 2)).fit (by decide) (by decide)
theorem ints_sh {ns : List Int} {c : Nat} (h : ∀ x ∈ ns, x.natAbs < 10 ^ 12) (hc : ns.length ≤ c) : Sh (c * 22 + 3) 1 (.tuple (ns.map .int)) := sh_tup (m := 20) (k := 0) (fun e he => by
  obtain ⟨x, hx, rfl⟩ := List.mem_map.mp he
  exact int_sh (h x hx)) (by rw [List.length_map]; exact hc)
/-! ### what is old stays, but for the urn -/
structure Es (H H' : Hp) : Prop where
  keep : Exn H H'
  back : ∀ a, H' a = none → H a = none
theorem Es.of {H H' : Hp} (e : Ex H H') : Es H H' := ⟨fun a o _ h => e a o h, fun _ h => Evl.fresh_back e h⟩
theorem Es.trans {H H1 H2 : Hp} (a : Es H H1) (b : Es H1 H2) : Es H H2 := ⟨fun x o z h => b.keep x o z (a.keep x o z h), fun x h => a.back x (b.back x h)⟩
theorem Es.ex {H H1 H2 : Hp} (a : Es H H1) (b : Ex H1 H2) : Es H H2 := a.trans (.of b)
theorem Ed.es {P : Program} {w : World} {c l : Addr} {T : Nat} {H H' : Hp} (e : Ed P w c l T H H') : Es H H' := ⟨e.keep, e.back⟩
theorem Exn.of {H H' : Hp} (e : Ex H H') : Exn H H' := fun a o _ h => e a o h
theorem Exn.trans {H H1 H2 : Hp} (a : Exn H H1) (b : Exn H1 H2) : Exn H H2 := fun x o z h => b x o z (a x o z h)
/-- what is new since H, and what was known in B -/
def mix (B H H' : Hp) : Hp := fun a => if H a = none then H' a else B a
section
variable {B B0 H0 H H' : Hp}
theorem mix_new {p : Addr} {o : HO} (h : H p = none) (h2 : H' p = some o) : mix B H H' p = some o := by
  unfold mix
  rw [if_pos h]
  exact h2
theorem mix_mono (e : Exn H H') : Exn (mix B0 H0 H) (mix B0 H0 H') := fun a o z h => by
  unfold mix at h ⊢
  by_cases q : H0 a = none
  · rw [if_pos q] at h ⊢
    exact e a o z h
  · rw [if_neg q] at h ⊢
    exact h
theorem mix_at (b : Ex B0 H0) (e0 : Es H0 H) : Exn (mix B0 H0 H) H := fun a o z h => by
  unfold mix at h
  by_cases q : H0 a = none
  · rw [if_pos q] at h
    exact h
  · rw [if_neg q] at h
    exact e0.keep a o z (b a o h)
theorem mix_base (b : Ex B0 H0) : Ex B0 (mix B0 H0 H) := fun a o h => by
  unfold mix
  rw [if_neg (by rw [b a o h]; exact fun z => nomatch z)]
  exact h
/-- all but one place -/
def hid (D : Addr) (H : Hp) : Hp := fun a => if a = D then none else H a
theorem hid_upd {D : Addr} {o : HO} : hid D (upd H D o) = hid D H := by
  funext a
  unfold hid
  by_cases h : a = D
  · rw [if_pos h, if_pos h]
  · rw [if_neg h, if_neg h, upd_ne h]
theorem hid_mono {D : Addr} (e : Exn H H') : Exn (hid D H) (hid D H') := fun a o z h => by
  unfold hid at h ⊢
  by_cases q : a = D
  · rw [if_pos q] at h; cases h
  · rw [if_neg q] at h ⊢
    exact e a o z h
theorem hid_at {D : Addr} : Exn (hid D H) H := fun a o z h => by
  unfold hid at h
  by_cases q : a = D
  · rw [if_pos q] at h; cases h
  · rw [if_neg q] at h
    exact h
theorem mix_hid {D : Addr} (b : Ex B H) (e : Exn H H') (hB : B D = none) (hD : H D ≠ none) : Exn (mix B H H') (hid D H') := fun a o z h => by
  unfold mix at h
  unfold hid
  by_cases q : H a = none
  · rw [if_pos q] at h
    have : a ≠ D := fun y => hD (by rw [← y]; exact q)
    rw [if_neg this]
    exact h
  · rw [if_neg q] at h
    have : a ≠ D := fun y => by rw [y, hB] at h; cases h
    rw [if_neg this]
    exact e a o z (b a o h)
end
theorem tup_inv {H : Hp} {v : V} {ds : List PyData} (h : Dv H v (.tuple ds)) : ∃ a xs, v = .ref a ∧ Tu H a xs ∧ DvAll H xs ds := by
  cases h with
  | tup h t => exact ⟨_, _, rfl, .inl h, t⟩
  | tuf h t => exact ⟨_, _, rfl, .inr ⟨_, h⟩, t⟩
theorem np {σ : L2.St} {H : Hp} {Q : Option Int → Hp → Prop} (h : Q none H) : tNoPart σ H Q := h
theorem tn {σ : L2.St} {H : Hp} {Q : List V → Hp → Prop} (h : Q [] H) : tNil σ H Q := h
/-- a tuple of items that can be shown -/
def TA (m k c : Nat) (B : Hp) (v : V) : Prop := ∃ ds, Dv B v (.tuple ds) ∧ (∀ e ∈ ds, Sh m k e) ∧ ds.length ≤ c
theorem TA.mono {m k c : Nat} {B B' : Hp} {v : V} (h : TA m k c B v) (e : Exn B B') : TA m k c B' v := by
  obtain ⟨ds, a, b⟩ := h
  exact ⟨ds, a.exn e, b⟩
theorem TA.le {m k c c' : Nat} {B : Hp} {v : V} (h : TA m k c B v) (e : c ≤ c') : TA m k c' B v := by
  obtain ⟨ds, a, b, c⟩ := h
  exact ⟨ds, a, b, by omega⟩
/-- data that can be shown -/
def Da (m k : Nat) (B : Hp) (v : V) : Prop := ∃ d, Dv B v d ∧ Sh m k d
theorem Da.mono {m k : Nat} {B B' : Hp} {v : V} (h : Da m k B v) (e : Exn B B') : Da m k B' v := by
  obtain ⟨ds, a, b⟩ := h
  exact ⟨ds, a.exn e, b⟩
theorem TA.da {m k c m' k' : Nat} {B : Hp} {v : V} (h : TA m k c B v) (hm : c * (m + 2) + 3 ≤ m') (hk : k + 1 ≤ k') : Da m' k' B v := by
  obtain ⟨ds, a, b, hc⟩ := h
  exact ⟨_, a, (sh_tup b hc).mono hm hk⟩
section
variable {B0 H0 H H' : Hp} {K : PySem.W.Frag} {m k c c' : Nat} {v u : V} {Q : VK}
theorem dm_tup {p : Addr} {xs : List V} {ds : List PyData} (e0 : Es H0 H) (hp : H p = none) (h : DvAll (mix B0 H0 H) xs ds) : Dv (mix B0 H0 (upd H p (.tup xs))) (.ref p) (.tuple ds) :=
  .tup (mix_new (e0.back _ hp) upd_same) (h.exn (mix_mono (Exn.of (Evl.Ex.new hp))))
theorem dm_lst {p : Addr} {xs : List V} {ds : List PyData} (e0 : Es H0 H) (hp : H p = none) (h : DvAll (mix B0 H0 H) xs ds) : Dv (mix B0 H0 (upd H p (.lst xs))) (.ref p) (.list ds) :=
  .lst (mix_new (e0.back _ hp) upd_same) (h.exn (mix_mono (Exn.of (Evl.Ex.new hp))))
theorem dm_in {ds : List PyData} (b : Ex B0 H0) (e0 : Es H0 H) (h : Dv (mix B0 H0 H) v (.tuple ds)) : ∃ a xs, v = .ref a ∧ Tu H a xs ∧ DvAll (mix B0 H0 H) xs ds ∧ xs.length = ds.length := by
  obtain ⟨a, xs, rfl, h1, h2⟩ := tup_inv h
  exact ⟨a, xs, rfl, h1.exn (mix_at b e0), h2, h2.len⟩
theorem cat_ta (b : Ex B0 H0) (e0 : Es H0 H) (h1 : TA m k c (mix B0 H0 H) v) (h2 : TA m k c' (mix B0 H0 H) u) (hl : c + c' ≤ 100000) (q : ∀ x H', Ex H H' → TA m k (c + c') (mix B0 H0 H') x → Q x H') : rCatA K v u H Q := by
  obtain ⟨ds, a1, a2, a3⟩ := h1
  obtain ⟨es, b1, b2, b3⟩ := h2
  obtain ⟨a, xs, rfl, ha, hx, lx⟩ := dm_in b e0 a1
  obtain ⟨a', ys, rfl, hb, hy, ly⟩ := dm_in b e0 b1
  have all : ∀ e ∈ ds ++ es, Sh m k e := fun y hy => by
    rcases List.mem_append.mp hy with z | z
    · exact a2 y z
    · exact b2 y z
  refine ⟨a, a', xs, ys, rfl, rfl, ha.sq, hb.sq, Evl.sz_of (by omega), fun z => ?_, fun _ z => ?_, fun _ _ p hp => q _ _ (Evl.Ex.new hp) ⟨_, dm_tup e0 hp (hx.app hy), all, by simp; omega⟩⟩
  · exact q _ _ (Evl.Ex.refl _) ⟨es, b1, b2, by omega⟩
  · exact q _ _ (Evl.Ex.refl _) ⟨ds, a1, a2, by omega⟩
theorem sl_ta {lo hi : Option Int} (b : Ex B0 H0) (e0 : Es H0 H) (h1 : TA m k c (mix B0 H0 H) v) (q : ∀ x H', Ex H H' → TA m k c (mix B0 H0 H') x → Q x H') : rSlA K v lo hi H Q := by
  obtain ⟨ds, a1, a2, a3⟩ := h1
  obtain ⟨a, xs, rfl, ha, hx, lx⟩ := dm_in b e0 a1
  refine ⟨a, xs, rfl, ha.sq, fun _ => q _ _ (Evl.Ex.refl _) ⟨ds, a1, a2, a3⟩, fun _ p hp => q _ _ (Evl.Ex.new hp) ⟨_, dm_tup e0 hp ((hx.drop _).take _), fun e he => a2 e (List.mem_of_mem_drop (List.mem_of_mem_take he)), ?_⟩⟩
  rw [List.length_take, List.length_drop]
  omega
theorem tup1_ta {e : PyData} {p : Addr} (e0 : Es H0 H) (h : Dv (mix B0 H0 H) v e) (hv : Sh m k e) (hp : H p = none) : TA m k 1 (mix B0 H0 (upd H p (.tup [v]))) (.ref p) :=
  ⟨[e], dm_tup e0 hp (.cons h .nil), fun x z => by rcases List.mem_singleton.mp z with rfl; exact hv, Nat.le_refl _⟩
theorem pick_all {B : Hp} {xs : List V} {ds : List PyData} (h : DvAll B xs ds) (f : Nat → Nat) : ∀ l : List Nat, DvAll B (l.filterMap fun j => xs[f j]?) (l.filterMap fun j => ds[f j]?)
  | [] => .nil
  | j :: l => by
    cases q : xs[f j]? with
    | none =>
      have : ds[f j]? = none := by
        have := List.getElem?_eq_none_iff.mp q
        rw [h.len] at this
        exact List.getElem?_eq_none this
      rw [List.filterMap_cons_none (by rw [q]), List.filterMap_cons_none (by rw [this])]
      exact pick_all h f l
    | some x =>
      obtain ⟨d, h1, h2⟩ := h.get q
      rw [List.filterMap_cons_some (by rw [q]), List.filterMap_cons_some (by rw [h1])]
      exact .cons h2 (pick_all h f l)
theorem rev_ta (b : Ex B0 H0) (e0 : Es H0 H) (h1 : TA m k c (mix B0 H0 H) v) :
    ∃ (a : Addr) (xs : List V), v = .ref a ∧ Tu H a xs ∧ ∀ (f : Nat → Nat) (n : Nat) p, n ≤ xs.length → H p = none → TA m k c (mix B0 H0 (upd H p (.tup ((List.range n).filterMap fun j => xs[f j]?)))) (.ref p) := by
  obtain ⟨ds, a1, a2, a3⟩ := h1
  obtain ⟨a, xs, rfl, ha, hx, lx⟩ := dm_in b e0 a1
  refine ⟨a, xs, rfl, ha, fun f n p hn hp => ⟨_, dm_tup e0 hp (pick_all hx f _), fun e he => ?_, ?_⟩⟩
  · obtain ⟨j, _, hj⟩ := List.mem_filterMap.mp he
    exact a2 e (List.mem_of_getElem? hj)
  · refine Nat.le_trans (List.length_filterMap_le _ _) ?_
    rw [List.length_range]
    omega
theorem lst_ta (b : Ex B0 H0) (e0 : Es H0 H) (h1 : TA m k c (mix B0 H0 H) v) (q : ∀ x H', Ex H H' → Da (c * (m + 2) + 3) (k + 1) (mix B0 H0 H') x → Q x H') : rLstOf K [v] H Q := by
  obtain ⟨ds, a1, a2, a3⟩ := h1
  obtain ⟨a, xs, rfl, ha, hx, lx⟩ := dm_in b e0 a1
  exact ⟨a, xs, rfl, .inr (ha.sq), fun l hl => q _ _ (Evl.Ex.new hl) ⟨_, dm_lst e0 hl hx, sh_lst a2 a3⟩⟩
end
/-! ### a list made turn by turn whose items may hold lists; the urn asked at each turn -/
section
variable {P : Program} {w : World} {te : TE} {vs : List Nat} {σ : L2.St} {H1 : Hp} {D c l : Addr} {T : Nat} {Qd : Hp → Prop} {j : Nat}
theorem made_rangeX {n : Nat} (m : Nat) (M : Hp → V → Prop) (C : UrnAt P w H1 c l T) (hD : H1 D = none) (hn : n < 100000) (st : ∀ v G G', Exn G G' → M G v → M G' v)
    (hw : ∀ x, wipe ((wipe σ vs).set j (some x)) vs = wipe σ vs)
    (he : ∀ i : Nat, i < n → ∀ H', Ed P w c l (T + i * m) H1 H' → H' D ≠ none → ∀ Q : VK, (∀ v H2, Ed P w c l (T + i * m + m) H' H2 → M (hid D H2) v → Q v H2) → te ((wipe σ vs).set j (some (.int (i : Int)))) H' Q)
    (hd : ∀ (ys : List V) H', ys.length = n → Ed P w c l (T + n * m) H1 H' → H' D = some (.lst ys) → (∀ v ∈ ys, M (hid D H') v) → Qd H') :
    ∃ W : Nat → Nat → Hp → Prop, (∃ m, W 0 m (upd H1 D (.lst []))) ∧ ∀ i m H, W i m H →
      ((Itr 0 n).stop i H ∧ Qd H) ∨ ((Itr 0 n).go i H ∧ ∃ Nx : Hp → Prop, (∀ H', Nx H' → ∃ m', m' < m ∧ W (i + 1) m' H') ∧ ∀ x H', (Itr 0 n).yld i H x H' → gName j x (wipe σ vs) H' fun σ2 H2 => wipe σ2 vs = wipe σ vs ∧ tYes σ2 H2 fun b H3 =>
        if b = true then te σ2 H3 fun y H4 => ∃ acc, H4 D = some (.lst acc) ∧ acc.length < sizeLine ∧ Nx (upd H4 D (.lst (acc ++ [y]))) else Nx H3) := by
  refine lc_range (lo := 0) (n := n) (fun i H' => ∃ ys : List V, ys.length = i ∧ Ed P w c l (T + i * m) H1 H' ∧ H' D = some (.lst ys) ∧ ∀ v ∈ ys, M (hid D H') v) ?_ ?_ ?_
  · refine ⟨[], rfl, ?_, upd_same, fun v z => (nomatch z)⟩
    rw [Nat.zero_mul]
    exact C.of (Evl.Ex.new hD)
  · rintro i H' hi ⟨ys, hl, e, hy, hm⟩
    have e0 : (0 : Int) + (i : Int) = (i : Int) := Int.zero_add _
    show wipe ((wipe σ vs).set j (some (.int (0 + (i : Int))))) vs = wipe σ vs ∧ tYes ((wipe σ vs).set j (some (.int (0 + (i : Int))))) H' _
    rw [e0]
    refine ⟨hw _, yesT (he i hi H' e (by rw [hy]; exact fun z => nomatch z) _ fun v H2 e2 hv => ?_)⟩
    refine ⟨ys, e2.sq hy, by rw [hl]; exact Evl.sz_lt (by omega), ys ++ [v], by simp [hl], ?_, upd_same, fun u hu => ?_⟩
    · have := Ed.mut (o := .lst (ys ++ [v])) (e.trans e2) hD
      rwa [show T + i * m + m = T + (i + 1) * m by rw [Nat.add_mul, Nat.one_mul, Nat.add_assoc]] at this
    · rw [hid_upd]
      rcases List.mem_append.mp hu with q | q
      · exact st u _ _ (hid_mono e2.keep) (hm u q)
      · rcases List.mem_singleton.mp q with rfl
        exact hv
  · rintro H' ⟨ys, hl, e, hy, hm⟩
    exact hd ys H' hl e hy hm
end
end Lr

namespace Lr
open PySem L2
def topS (i : Nat) : Stmt := PySem.Challenge.pw_lanerules_k52_favoured_lanes.main.body.getD i (.Pass ⟨0, 0, 0, 0⟩)
abbrev sWeave : Stmt := topS 27
abbrev nWeave : List Str := ["_law_loom_here", "_law_many", "_law_cell", "_law_mixed_here"]
theorem scWeave : FnScope nWeave ["_law_loom_here", "_law_many"] (defScope sWeave) :=
  ⟨rfl, rfl, rfl, by decide +kernel, rfl, by decide +kernel, by decide +kernel⟩
section
variable {P : Program} {w : World} {K : PySem.W.Frag} {mg : Str → Option Value} {base : Heap}
def spWeave (P : Program) (w : World) : Sp := fun vs H Q _ => ∃ c d n m, vs = [.ref c, .int m] ∧ LoomAt P w c d H n ∧ 0 < m ∧ m < 1000000 ∧ n < 1000000000000 ∧ ∀ r H', (∀ b o, b ≠ c → H b = some o → H' b = some o) → LoomAt P w c d H' (n + 1) → 0 ≤ r → r < m → Q (.int r) H'
theorem ok_weave {f : Addr} {fd : FuncData} (F : Fun K "_law_weave" "_law_weave" sWeave f fd) : FnOk P w K mg base CX0 1 f fd ["_law_loom_here", "_law_many"] (spWeave P w) := by
  refine F.ok scWeave (fun vs H Q E h => ?_) (fun cdv A outer s H vs Q E hr h => ?_)
  · obtain ⟨c, d, n, m, rfl, _⟩ := h
    rfl
  obtain ⟨c, d, n, mm, rfl, ⟨h1, h2, hcd⟩, hm, hm2, hn, k⟩ := h
  refine ⟨_, pss_loom (pss_cons (ps_if (pt_cmpR op_lt (pv 1) pe_int (nomark _)) (pss_one (ps_ret pe_int)) pss_nil)
    (pss_cons (ps_if (pt_cmpR (ko_neD (K := K) rfl hr.units) (pe_ix (kx_list (K := K) rfl) (pv 0) pe_int (fun _ _ => rfl)) (pe_lst pa_nil) (nomark _)) (pss_cons (ps_set (i := 2) scWeave.nd rfl (Or.inl rfl) (pe_bm PySem.F.plainAttrs_list PySem.F.slot_list_pop PySem.F.type_list_pop mt_popAt (pe_ix (kx_list (K := K) rfl) (pv 0) pe_int (fun _ _ => rfl)) (pa_cons pe_int pa_nil)))
      (pss_cons (ps_if (pt_cmpR op_ge (pv 2) (pv 1) (nomark _)) (pss_one (ps_expr (pe_bm PySem.F.plainAttrs_list PySem.F.slot_list_insert PySem.F.type_list_insert mt_insert (pe_ix (kx_list (K := K) rfl) (pv 0) pe_int (fun _ _ => rfl)) (pa_cons pe_int (pa_cons (pe_op op_fdivW (pv 2) (pv 1)) pa_nil))))) pss_nil)
      (pss_one (ps_ret (pe_op op_modN (pv 2) (pv 1)))))) pss_nil)
    (pss_cons (ps_asg (pe_op op_add (pe_ix (kx_list (K := K) rfl) (pv 0) pe_int (fun _ _ => rfl)) pe_int) (pg_sub (pv 0) pe_int set_list))
    (pss_cons (ps_set (i := 3) scWeave.nd rfl (Or.inl rfl) (pe_op op_modN (pe_op op_pow (pe_op op_add (pe_op op_modN (pe_ix (kx_list (K := K) rfl) (pv 0) pe_int (fun _ _ => rfl)) pe_int) (pe_op op_mul pe_int (pe_ix (kx_list (K := K) rfl) (pv 0) pe_int (fun _ _ => rfl)))) pe_int) pe_int))
    (pss_cons (ps_asg (pe_op op_modN (pe_op op_add (pe_op op_mul (pe_ix (kx_list (K := K) rfl) (pv 0) pe_int (fun _ _ => rfl)) pe_int) (pv 3)) pe_int) (pg_sub (pv 0) pe_int set_list))
    (pss_one (ps_ret (pe_op op_modN (pe_op op_fdivW (pe_op op_add (pe_op op_mul (pv 3) pe_int) (pe_ix (kx_list (K := K) rfl) (pv 0) pe_int (fun _ _ => rfl))) pe_int) (pv 1))))))))), ?_⟩
  refine ⟨c, d, n, h1, h2, hcd, fun mx tm ds gm gt g => ?_⟩
  have e1 : upd (upd H c (.lst (LoomV d mx tm))) d (.lst (ds.map V.int)) c = some (.lst (LoomV d mx tm)) := by rw [upd_ne hcd.symm]; exact upd_same
  have e2 : upd (upd H c (.lst (LoomV d mx tm))) d (.lst (ds.map V.int)) d = some (.lst (ds.map V.int)) := upd_same
  have o0 : ∀ b o, b ≠ c → b ≠ d → H b = some o → upd (upd H c (.lst (LoomV d mx tm))) d (.lst (ds.map V.int)) b = some o := fun b o n1 n2 e => by rw [upd_ne n2, upd_ne n1]; exact e
  generalize upd (upd H c (.lst (LoomV d mx tm))) d (.lst (ds.map V.int)) = G0 at e1 e2 o0 ⊢
  have back : ∀ H1 : Hp, (∀ b o, b ≠ c → b ≠ d → H b = some o → H1 b = some o) → ∀ b o, b ≠ c → H b = some o → upd (upd H1 c (.ext (phiW P w c d (n + 1)))) d (.ext (phiQ P w d)) b = some o := fun H1 o b u hc e => by
    by_cases hb : b = d
    · subst hb
      rw [upd_same, ← h2]
      exact e
    · rw [upd_ne hb, upd_ne hc]
      exact o b u hc hb e
  have fin : ∀ H1 : Hp, LoomAt P w c d (upd (upd H1 c (.ext (phiW P w c d (n + 1)))) d (.ext (phiQ P w d))) (n + 1) := fun H1 => ⟨by rw [upd_ne hcd.symm]; exact upd_same, upd_same, hcd⟩
  have i2 : ∀ m t : Int, atI (LoomV d m t) 2 = some (.ref d) := fun _ _ => rfl
  have i0 : ∀ m t : Int, atI (LoomV d m t) 0 = some (.int m) := fun _ _ => rfl
  have i1 : ∀ m t : Int, atI (LoomV d m t) 1 = some (.int t) := fun _ _ => rfl
  have up : 0 ≤ tm ∧ tm ≤ ((n + 1 : Nat) : Int) := ⟨gt.1, by have := gt.2; omega⟩
  -- if many < 2
  refine ⟨_, rfl, _, _, rfl, rfl, _, rfl, ?_⟩
  refine ite2 (fun hz => ?_) (fun hz => ?_)
  · refine ⟨mx, tm, ds, e1, e2, gm, up, g, ?_⟩
    exact k _ _ (back _ o0) (fin _) (by decide) hm
  -- if loom[2] != []
  refine ⟨_, rfl, c, _, _, _, rfl, rfl, SqL.of e1, i2 _ _, (by show 0 ≤ sizeLine; decide), fun p hp => ?_⟩
  have npc : c ≠ p := ne_of_none e1 hp
  have npd : d ≠ p := ne_of_none e2 hp
  have q1 : upd G0 p (.lst []) c = some (.lst (LoomV d mx tm)) := by rw [upd_ne npc]; exact e1
  have q2 : upd G0 p (.lst []) d = some (.lst (ds.map V.int)) := by rw [upd_ne npd]; exact e2
  have o1 : ∀ b o, b ≠ c → b ≠ d → H b = some o → upd G0 p (.lst []) b = some o := fun b u n1 n2 e => by
    rw [upd_ne (ne_of_none (o0 b u n1 n2 e) hp)]
    exact o0 b u n1 n2 e
  have q3 : upd G0 p (.lst []) p = some (.lst []) := upd_same
  generalize upd G0 p (.lst []) = G at q1 q2 q3 o1 ⊢
  refine ⟨.list (ds.map .int), .list [], .lst (SqL.of q2) (dp_ints _ _ ds), .lst (SqL.of q3) .nil, shaped_ints ds, shaped_ints [], _, rfl, ?_⟩
  rw [eqv_nil]
  have nz : (2305843009213693951 : Int) ≠ 0 := by decide
  have mulOk : ∀ y z : Int, LmOk y → CMul y z := fun y z h => .inl (by have := h.1; have := h.2; omega)
  cases ds with
  | nil =>
    refine iteF ?_
    -- loom[1] = loom[1] + 1
    refine ⟨_, rfl, c, _, _, _, rfl, rfl, SqL.of q1, i1 _ _, _, _, rfl, rfl, _, rfl, c, _, 1, 1, rfl, rfl, q1, rfl, ?_⟩
    have eS : (LoomV d mx tm).set 1 (.int (tm + 1)) = LoomV d mx (tm + 1) := rfl
    rw [eS]
    have p1 : upd G c (.lst (LoomV d mx (tm + 1))) c = some (.lst (LoomV d mx (tm + 1))) := upd_same
    have p2 : upd G c (.lst (LoomV d mx (tm + 1))) d = some (.lst (([] : List Int).map V.int)) := by rw [upd_ne hcd]; exact q2
    have p3 : ∀ b o, b ≠ c → b ≠ d → H b = some o → upd G c (.lst (LoomV d mx (tm + 1))) b = some o := fun b u n1 n2 e => by rw [upd_ne n1]; exact o1 b u n1 n2 e
    generalize upd G c (.lst (LoomV d mx (tm + 1))) = G2 at p1 p2 p3 ⊢
    have nz1 : (2147483647 : Int) ≠ 0 := by decide
    have nz2 : (2147483629 : Int) ≠ 0 := by decide
    have f0 := Int.fmod_nonneg_of_pos mx (b := 2147483647) (by decide)
    have f1 := Int.fmod_lt_of_pos mx (b := 2147483647) (by decide)
    have gt2 := gt.2
    have gt1 := gt.1
    have cp : CPow (mx.fmod 2147483647 + 40503 * (tm + 1)) 3 := ⟨by decide, by decide, by omega⟩
    -- mixed = ..
    refine ⟨_, rfl, c, _, _, _, rfl, rfl, SqL.of p1, i0 _ _, _, _, rfl, rfl, nz1, _, rfl, c, _, _, _, rfl, rfl, SqL.of p1, i1 _ _, _, _, rfl, rfl, .inl (by decide), _, _, rfl, rfl, _, _, rfl, rfl, cp, _, _, rfl, rfl, nz2, ?_⟩
    dsimp only
    generalize ((mx.fmod 2147483647 + 40503 * (tm + 1)) ^ (3 : Int).toNat).fmod 2147483629 = z
    -- loom[0] = ..
    have big : ∀ y : Int, LmOk (y.fmod 2305843009213693951) := fun y => ⟨Int.fmod_nonneg_of_pos _ (by decide), Int.fmod_lt_of_pos _ (by decide)⟩
    refine ⟨_, rfl, c, _, _, _, rfl, rfl, SqL.of p1, i0 _ _, _, _, rfl, rfl, mulOk _ _ gm, _, rfl, _, _, rfl, rfl, _, _, rfl, rfl, nz, _, rfl, c, _, 0, 0, rfl, rfl, p1, rfl, ?_⟩
    have b1 := big (mx * 6364136223 + z)
    dsimp only
    generalize (mx * 6364136223 + z).fmod 2305843009213693951 = y at b1 ⊢
    have eS2 : (LoomV d mx (tm + 1)).set 0 (.int y) = LoomV d y (tm + 1) := rfl
    rw [eS2]
    have r1 : upd G2 c (.lst (LoomV d y (tm + 1))) c = some (.lst (LoomV d y (tm + 1))) := upd_same
    have r2 : upd G2 c (.lst (LoomV d y (tm + 1))) d = some (.lst (([] : List Int).map V.int)) := by rw [upd_ne hcd]; exact p2
    have r3 : ∀ b o, b ≠ c → b ≠ d → H b = some o → upd G2 c (.lst (LoomV d y (tm + 1))) b = some o := fun b u n1 n2 e => by rw [upd_ne n1]; exact p3 b u n1 n2 e
    generalize upd G2 c (.lst (LoomV d y (tm + 1))) = G3 at r1 r2 r3 ⊢
    refine ⟨_, rfl, _, _, rfl, rfl, .inr (by decide), _, rfl, c, _, _, _, rfl, rfl, SqL.of r1, i0 _ _, _, _, rfl, rfl, _, _, rfl, rfl, wide_div (by decide) (b := 20) (by decide) (by decide) (by decide), _, rfl, _, _, rfl, rfl, by omega, y, tm + 1, [], r1, r2, b1, ⟨by omega, by omega⟩, ⟨fun y hy => (nomatch hy), by decide⟩, ?_⟩
    exact k _ _ (back _ r3) (fin _) (Int.fmod_nonneg_of_pos _ hm) (Int.fmod_lt_of_pos _ hm)
  | cons x r =>
    refine iteT ?_
    have gx : 0 ≤ x := g.1 x (by simp)
    have gr : PileOk r := ⟨fun y hy => g.1 y (by simp [hy]), by have := g.2; simp at this; omega⟩
    -- cell = loom[2].pop(0)
    refine ⟨_, rfl, c, _, _, _, rfl, rfl, SqL.of q1, i2 _ _, .inl ⟨rfl, _, SqL.of q2⟩, d, _, 0, 0, .int x, rfl, rfl, q2, by decide, by decide, by simp [seqIndex?], rfl, ?_⟩
    have p1 : upd G d (.lst (r.map V.int)) c = some (.lst (LoomV d mx tm)) := by rw [upd_ne hcd.symm]; exact q1
    have p2 : upd G d (.lst (r.map V.int)) d = some (.lst (r.map V.int)) := upd_same
    have p3 : ∀ b o, b ≠ c → b ≠ d → H b = some o → upd G d (.lst (r.map V.int)) b = some o := fun b u n1 n2 e => by rw [upd_ne n2]; exact o1 b u n1 n2 e
    have eG : (HO.lst ((List.map V.int (x :: r)).eraseIdx 0)) = .lst (r.map V.int) := rfl
    rw [eG]
    generalize upd G d (.lst (r.map V.int)) = G2 at p1 p2 p3 ⊢
    -- if cell >= many
    refine ⟨_, rfl, _, rfl, _, _, rfl, rfl, _, rfl, ?_⟩
    refine ite2 (fun _ => ?_) (fun _ => ?_)
    · refine ⟨_, rfl, c, _, _, _, rfl, rfl, SqL.of p1, i2 _ _, .inl ⟨rfl, _, SqL.of p2⟩, _, rfl, _, rfl, _, _, rfl, rfl, wide_div hm (b := 20) (by omega) (by decide) (by decide), d, _, 0, _, rfl, rfl, p2, ?_, by decide, by decide, ?_⟩
      · rw [List.length_map]
        exact Nat.lt_of_le_of_lt gr.2 (by decide)
      refine ⟨_, rfl, _, rfl, _, _, rfl, rfl, by omega, mx, tm, (x / mm) :: r, ?_, upd_same, gm, up, ?_, k _ _ (back _ ?_) (fin _) (Int.fmod_nonneg_of_pos _ hm) (Int.fmod_lt_of_pos _ hm)⟩
      · rw [upd_ne hcd.symm]; exact p1
      · refine ⟨fun y hy => ?_, by have := g.2; simpa using this⟩
        rcases List.mem_cons.mp hy with rfl | hy
        · exact Int.ediv_nonneg gx (by omega)
        · exact gr.1 y hy
      · intro b u n1 n2 e
        rw [upd_ne n2]
        exact p3 b u n1 n2 e
    · refine ⟨_, rfl, _, rfl, _, _, rfl, rfl, by omega, mx, tm, r, p1, p2, gm, up, gr, ?_⟩
      exact k _ _ (back _ p3) (fin _) (Int.fmod_nonneg_of_pos _ hm) (Int.fmod_lt_of_pos _ hm)
end
end Lr

namespace Lr
open PySem L2
abbrev sLoom : Stmt := topS 26
abbrev nLoom : List Str := ["_law_script", "_law_found", "_law_cell"]
theorem scLoom : FnScope nLoom ["_law_script"] (defScope sLoom) :=
  ⟨rfl, rfl, rfl, by decide +kernel, rfl, by decide +kernel, by decide +kernel⟩
section
variable {P : Program} {w : World} {K : PySem.W.Frag} {mg : Str → Option Value} {base : Heap}
def spLoom (P : Program) (w : World) (K : PySem.W.Frag) : Sp := fun vs H Q _ => ∃ (a : Addr) (ns : List Int), vs = [.ref a] ∧ SqL K H a (ns.map V.int) ∧ ns.length ≤ 63 ∧ ∀ c d H', Ex H H' → H c = none → H d = none → LoomAt P w c d H' 0 → Q (.ref c) H'
theorem ok_loom {f : Addr} {fd : FuncData} (F : Fun K "_law_loom" "_law_loom" sLoom f fd) (T : Blt mg) : FnOk P w K mg base CX0 1 f fd ["_law_script"] (spLoom P w K) := by
  refine F.ok scLoom (fun vs H Q E h => ?_) (fun cdv A outer s H vs Q E hr h => ?_)
  · obtain ⟨a, ns, rfl, _⟩ := h
    rfl
  obtain ⟨a, ns, rfl, hS, hlen, k⟩ := h
  refine ⟨_, pss_shutW (pss_cons (ps_set (i := 1) scLoom.nd rfl (Or.inl rfl) (pe_op op_add pe_int (pe_op op_mul pe_int (pe_callB (k_len (K := K) rfl) rfl T.len bt_len (pa_cons (pv 0) pa_nil)))))
    (pss_cons (ps_for PassesOwn.never rfl (ki_list (K := K) rfl (pv 0)) (pg_name (i := 2) scLoom.nd rfl (Or.inl rfl)) (pss_one (ps_set (i := 1) scLoom.nd rfl (Or.inl rfl) (pe_op op_modN (pe_op op_add (pe_op op_add (pe_op op_mul (pv 1) pe_int) (pe_op op_modN (pv 2) pe_int)) pe_int) pe_int))))
    (pss_one (ps_ret (pe_lst (pa_cons (pv 1) (pa_cons pe_int (pa_cons (pe_lc (own := [("_law_cell", 2)]) (g := gName 2)  (by rfl) scLoom.nd (ki_list (K := K) rfl (pv 0)) (blkOk_by (own := [("_law_cell", 2)]) (N := nLoom) (sc := defScope sLoom) (by decide +kernel)) (fun _ _ _ _ _ => (pg_name (i := 2) scLoom.nd rfl (Or.inl rfl))) (fun _ _ _ _ _ => pts_one (pt_cmpR op_ge (pv 2) (pe_op op_pow pe_int pe_int) (nomark _))) (fun _ _ _ _ _ => (pv 2))) pa_nil)))))))), ?_⟩
  have nz1 : (4294967291 : Int) ≠ 0 := by decide
  have nz2 : (2305843009213693951 : Int) ≠ 0 := by decide
  have big : ∀ y : Int, LmOk (y.fmod 2305843009213693951) := fun y => ⟨Int.fmod_nonneg_of_pos _ (by decide), Int.fmod_lt_of_pos _ (by decide)⟩
  refine ⟨_, rfl, a, _, rfl, .inl hS, _, _, rfl, rfl, .inl (by decide), _, _, rfl, rfl, ?_⟩
  have hl : ((ns.map V.int).length : Int) ≤ 63 := by rw [List.length_map]; omega
  have hl0 : (0 : Int) ≤ ((ns.map V.int).length : Int) := by omega
  have m0 : LmOk (104729 + 2 * ((ns.map V.int).length : Int)) := ⟨by omega, by omega⟩
  refine ⟨_, rfl, a, rfl, ⟨_, hS⟩, fun i m σ' H' => m = ns.length - i ∧ i ≤ ns.length ∧ H' = H ∧ ∃ z x2, LmOk z ∧ σ' = [some (.ref a), some (.int z), x2], ⟨_, rfl, Nat.zero_le _, rfl, _, _, m0, rfl⟩, ?_⟩
  rintro i m σ' H' ⟨rfl, hi, rfl, z, x2, mz, rfl⟩
  by_cases hlt : i < ns.length
  · have hx : (ns.map V.int)[i]? = some (.int ns[i]) := by rw [List.getElem?_map, List.getElem?_eq_getElem hlt]; rfl
    refine .inr ⟨⟨_, _, hS, hx⟩, fun σ2 H2 => H2 = H' ∧ ∃ z x2, LmOk z ∧ σ2 = [some (.ref a), some (.int z), x2], ?_, ?_⟩
    · rintro σ2 H2 ⟨rfl, z, x2, mz, rfl⟩
      exact ⟨_, (by omega : ns.length - (i + 1) < ns.length - i), rfl, hlt, rfl, z, x2, mz, rfl⟩
    · rintro x H'' ⟨rfl, hy⟩
      have hy := hy _ hS
      rw [hx] at hy
      cases hy
      refine ⟨_, rfl, _, _, rfl, rfl, .inl (by have := mz.1; have := mz.2; omega), _, rfl, _, _, rfl, rfl, nz1, _, _, rfl, rfl, _, _, rfl, rfl, _, _, rfl, rfl, nz2, ?_⟩
      exact ⟨rfl, _, _, big _, rfl⟩
  · refine .inl ⟨⟨_, hS, by rw [List.length_map]; omega⟩, ?_⟩
    refine ⟨_, rfl, ?_⟩
    refine ⟨_, rfl, a, rfl, ⟨_, hS⟩, fun d hd => ?_⟩
    refine lc_list (K := K) (a := a) (xs := ns.map V.int) (fun i G => ∃ ds : List Int, ds.length ≤ i ∧ (∀ x ∈ ds, 0 ≤ x) ∧ G d = some (.lst (ds.map V.int)) ∧ Ex H' G ∧ i ≤ 63)
      ⟨[], Nat.le_refl _, fun _ z => (nomatch z), upd_same, Evl.Ex.new hd, by decide⟩ (fun i G _ ⟨_, _, _, _, e, _⟩ => Evl.ex_l e hS) ?_ ?_
    · rintro i x G hi ⟨ds, hl, hpos, g1, g2, _⟩
      have hil := (List.getElem?_eq_some_iff.mp hi).1
      rw [List.length_map] at hil
      rw [List.getElem?_map] at hi
      cases e2 : ns[i]? with
      | none => rw [e2] at hi; cases hi
      | some z =>
        rw [e2] at hi
        cases hi
        refine ⟨rfl, _, rfl, _, _, rfl, rfl, ⟨by decide, by decide, by decide⟩, _, _, rfl, rfl, _, rfl, ?_⟩
        refine ite2 (fun hz => ?_) (fun _ => ?_)
        · have hz2 : (10 : Int) ^ (18 : Int).toNat ≤ z := of_decide_eq_true hz
          have hz3 : (0 : Int) ≤ (10 : Int) ^ (18 : Int).toNat := by decide
          refine ⟨_, rfl, _, g1, by rw [List.length_map]; exact Nat.lt_of_le_of_lt (by omega) (by decide : 63 < sizeLine), ds ++ [z], by simp; omega, ?_, by rw [upd_same, List.map_append]; rfl, Evl.Ex.mut g2 hd, by omega⟩
          intro x hx
          rcases List.mem_append.mp hx with q | q
          · exact hpos x q
          · simp at q
            omega
        · exact ⟨ds, by omega, hpos, g1, g2, by omega⟩
    rintro G ⟨ds, hl, hpos, g1, g2, hle⟩
    rw [List.length_map] at hl hle
    refine ⟨by show 3 ≤ sizeLine; decide, fun c hc => ?_⟩
    have ndc : d ≠ c := ne_of_none g1 hc
    refine ⟨c, d, z, ds, rfl, upd_same, by rw [upd_ne ndc]; exact g1, mz, ⟨hpos, by omega⟩, ndc, ?_⟩
    have hc0 : H' c = none := Evl.fresh_back g2 hc
    refine k c d _ (fun b o e => ?_) hc0 hd ⟨by rw [upd_ne ndc.symm]; exact upd_same, upd_same, ndc⟩
    have n1 : b ≠ d := ne_of_none e hd
    have n2 : b ≠ c := ne_of_none e hc0
    rw [upd_ne n1, upd_ne n2, upd_ne n2]
    exact g2 b o e
end
end Lr

local macro_rules | `(tactic| open_z) => `(tactic| simp only [↓Lr.wSeq, ↓Lr.wNext, ↓Lr.wIfS, ↓Lr.wRet, ↓Lr.wRetN, ↓Lr.wAsg, ↓Lr.wDrop, ↓Lr.wOp, ↓Lr.wUn, ↓Lr.wC, ↓Lr.wTy, ↓Lr.wRef, ↓Lr.wB, ↓Lr.wAnd, ↓Lr.wOr, ↓Lr.wNot, ↓Lr.wYes, ↓Lr.wAndV, ↓Lr.wOrV, ↓Lr.wNotV, ↓Lr.wIf, ↓Lr.wChain, ↓Lr.wNil, ↓Lr.wCons, ↓Lr.wTup, ↓Lr.wLst, ↓Lr.wNoPart, ↓Lr.wPart, ↓Lr.wSl, ↓Lr.wCB, ↓Lr.wIt, ↓Lr.wRng1, ↓Lr.wRng2, ↓Lr.wCall, ↓Lr.wCallB, ↓Lr.wfLst, ↓Lr.wfLstOf, ↓Lr.wOfF, ↓Lr.wForS, ↓Lr.wIxm, ↓Lr.wRev, ↓Lr.wDnew, ↓Lr.wRg1, ↓Lr.wRg2, ↓Lr.wTupRg, ↓Lr.wfLstRg, ↓Lr.wSeqX, ↓Lr.wIfX, ↓Lr.wDropX, ↓Lr.wRetX, ↓Lr.wAsgX, ↓Lr.wForX, ↓Lr.wCallX, ↓Lr.wCallXS, ↓Lr.wCall0, ↓Lr.wCallS0, ↓Lr.wRz1, ↓Lr.wRz0, ↓Lr.wIfXE, ↓Lr.wDispI, ↓Lr.wCnt, ↓Lr.wXf, ↓Lr.wClsT, ↓Lr.wgNil, ↓Lr.asDs_nil, ↓Lr.asDs_cons, ↓Lr.asDs_map, ↓Lr.asIs_ints, ↓Lr.k_var, ↓Lr.k_varB, ↓Lr.getK_s, ↓Lr.getK_d, ↓Lr.getK_o, ↓Lr.getK_t, ↓Lr.getK_r, ↓Lr.getB_s, ↓Lr.getB_d, ↓Lr.getB_o, ↓Lr.getB_t, ↓Lr.getB_r, ↓Lr.getB_w, ↓Lr.getO_s, ↓Lr.getO_w, ↓Lr.setK_s, ↓Lr.setK_0, ↓Lr.wipeK_n, ↓Lr.wipeK_c, ↓Lr.k_name, ↓Lr.k_lc, ↓Lr.k_aug, ↓Lr.k_own, ↓Lr.k_app, ↓Lr.k_rel, ↓Lr.k_relX, ↓Lr.k_par, ↓Lr.k_par3, ↓Lr.k_par01, ↓Lr.k_par11, ↓Lr.k_put, ↓Lr.k_appPop, ↓Lr.k_try, ↓Lr.k_rem, ↓Lr.k_lcW, ↓Lr.wForW, ↓Lr.wForWX, ↓Lr.wEnum, ↓Lr.rowsD, ↓Lr.wStar, ↓Lr.wLenSet, ↓Lr.wPick, ↓Lr.wRun, ↓Lr.ite_tt, ↓Lr.ite_ff, ↓Lr.getB_l, ↓Lr.getO2_s, ↓Lr.getO2_w, ↓Lr.dropK_n, ↓Lr.dropK_c, ↓Lr.dl1_n, ↓Lr.dl1_d, ↓Lr.dl1_o, ↓Lr.dl1_t, ↓Lr.dl1_r, ↓Lr.dl1_w, ↓Lr.dl1_w2, ↓Lr.dl1_l, ↓Lr.setAllK_c, ↓Lr.setAllK_n, ↓Lr.freeK_s, ↓Lr.freeK_n, ↓Lr.freeK_d, ↓Lr.k_ix2, ↓Lr.k_app2, ↓Lr.k_put2, ↓Lr.k_forO, ↓Lr.k_parN, ↓Lr.k_wpF, ↓Lr.k_wpF2, ↓Lr.wpE, ↓Lr.wfSl, ↓Lr.wf2Nil, ↓Lr.wGPlain, ↓Lr.wG0, ↓Lr.wGThen, ↓Lr.wGIf, ↓Lr.wGYield, ↓Lr.wGForS, ↓Lr.wLstG, ↓Lr.wEnumS, ↓Lr.wM1, ↓Lr.fCntS, ↓Lr.fJoin, ↓Lr.fSplit, ↓Lr.wRevS, ↓Lr.asTs_map, ↓Lr.k_tryE, ↓Lr.wOpX, ↓Lr.asDs_app, ↓Lr.fIntS, ↓Lr.fInT, ↓Lr.wFld, ↓Lr.wPropQ, ↓Lr.wPropX, ↓Lr.wInQ, ↓Lr.wIxQ, ↓Lr.wMake, ↓Lr.wMake0, ↓Lr.wEqQ, ↓Lr.k_callIQ, ↓Lr.wRevT, ↓Lr.nE, ↓Lr.nT, ↓Lr.nA, ↓Lr.nI, ↓Lr.nOp, ↓Lr.nUn, ↓Lr.nCons, ↓Lr.nTup, ↓Lr.nLst, ↓Lr.nCB, ↓Lr.nB, ↓Lr.nAnd, ↓Lr.nOr, ↓Lr.nNot, ↓Lr.nIf, ↓Lr.nO, ↓Lr.nPart, ↓Lr.nIt, ↓Lr.nRng1, ↓Lr.nRng2, ↓Lr.k_nLc, ↓Lr.nCall, ↓Lr.nS, ↓Lr.nSeq, ↓Lr.nDrop, ↓Lr.nRet, ↓Lr.nIfS, ↓Lr.nAsg, ↓Lr.k_nPar, ↓Lr.k_nPar3, ↓Lr.k_nParN, ↓Lr.wCKw, ↓Lr.q_fMaxD, ↓Lr.ncomp_lift, ↓Lr.nCat, ↓Lr.nTimes, ↓Lr.k_nFlc, ↓Lr.asL2_l, ↓Lr.nForS, ↓Lr.k_nApp, ↓Lr.k_nAppPop, ↓Lr.k_nPut, ↓Lr.k_nOwn, ↓Lr.k_nRel, ↓Lr.k_nOpen, ↓Lr.nF, ↓Lr.nSl, ↓Lr.q_fI_1, ↓Lr.q_fI0_1, ↓Lr.q_fAdd_1, ↓Lr.q_fAdd_2, ↓Lr.q_fAdd_3, ↓Lr.q_fAdd_4, ↓Lr.q_fEq_1, ↓Lr.q_fNe_1, ↓Lr.q_fIn_1, ↓Lr.q_fIn_2, ↓Lr.q_fIx_1, ↓Lr.q_fIx_2, ↓Lr.q_fIx_3, ↓Lr.q_fIsN_1, ↓Lr.q_fU_1, ↓Lr.q_asB_1, ↓Lr.q_asI_1, ↓Lr.q_fSl_1, ↓Lr.q_fSl_2, ↓Lr.q_fSl_3, ↓Lr.q_fLen_1, ↓Lr.q_fLen_2, ↓Lr.q_fLen_3, ↓Lr.q_fLen_4, ↓Lr.q_fIsi_1, ↓Lr.q_itD_1, ↓Lr.q_itD_2, ↓Lr.q_itD_3, ↓Lr.q_asR1_1, ↓Lr.q_asR2_1, ↓Lr.q_wgCons_1, ↓Lr.q_wgCons_2, ↓Lr.q_wgTup_1, ↓Lr.q_as2_1, ↓Lr.q_as3_1, ↓Lr.q_fLstOf_1, ↓Lr.q_fLstOf_2, ↓Lr.q_fTupOf_1, ↓Lr.q_fTupOf_2, ↓Lr.q_asD_1, ↓Lr.q_fMul_1, ↓Lr.q_fMul_2, ↓Lr.q_fMul_3, ↓Lr.q_fInt_1, ↓Lr.q_fInt_2, ↓Lr.q_fRepr_1, ↓Lr.q_fMin_1, ↓Lr.q_fMin_2, ↓Lr.q_fAll_1, ↓Lr.q_asSeq_1, ↓Lr.q_asSeq_2, ↓Lr.q_asL_1, ↓Lr.q_fNil_1, ↓Lr.q_fNil_2, ↓Lr.q_fEqS_1, ↓Lr.q_fNeS_1, ↓Lr.q_asTu_1, ↓Lr.q_fSort_1, ↓Lr.q_fSort_2, ↓Lr.q_fAny_1, ↓Lr.q_fMax_1, ↓Lr.q_fMax_2, ↓Lr.q_fSum_1, ↓Lr.q_fStr_1, ↓Lr.q_asS_1, ↓Lr.q_asS1_1, ↓Lr.k_ext, ↓Lr.q_exL, ↓Lr.q_fMulS, ↓Lr.q_fMulT, ↓Lr.q_fSortT, ↓Lr.fNinT, ↓Lr.q_fStr2_1, ↓Lr.q_fStr2_2, List.map_cons, List.map_nil, List.length_cons, List.length_nil, List.cons_append, List.nil_append, List.replicate_succ, List.replicate_zero, Option.map_some, Option.map_none, ite_true, ite_false, if_true, if_false, Nat.reduceAdd, Nat.reduceSub, Nat.reduceLeDiff, Bool.false_eq_true, Bool.not_true, Bool.not_false, Bool.true_and, Bool.and_true, Bool.false_and, Bool.and_false, true_and, and_true, Bool.bne_true, Bool.bne_false, Bool.false_bne, Bool.true_bne, bne_self_eq_false])
namespace Lr
open PySem L2
abbrev sDLawMixed : Stmt := topS 28
abbrev nDLawMixed : List Str := ["_law_loom_here", "_law_many", "_law_pool", "_law_found"]
theorem scDLawMixed : FnScope nDLawMixed ["_law_loom_here", "_law_many"] (defScope sDLawMixed) :=
  ⟨rfl, rfl, rfl, by decide +kernel, rfl, by decide +kernel, by decide +kernel⟩
abbrev sDLawRule : Stmt := topS 29
abbrev nDLawRule : List Str := ["_law_loom_here", "_law_top", "_law_many", "_law_way", "_law_lanes", "_law_rule_here", "_law_q", "_law_one", "_law_k"]
theorem scDLawRule : FnScope nDLawRule ["_law_loom_here", "_law_top"] (defScope sDLawRule) :=
  ⟨rfl, rfl, rfl, by decide +kernel, rfl, by decide +kernel, by decide +kernel⟩
abbrev sDLawOdd : Stmt := topS 32
abbrev nDLawOdd : List Str := ["_law_loom_here", "_law_some"]
theorem scDLawOdd : FnScope nDLawOdd ["_law_loom_here"] (defScope sDLawOdd) :=
  ⟨rfl, rfl, rfl, by decide +kernel, rfl, by decide +kernel, by decide +kernel⟩
/-- how often may be drawn -/
abbrev topN : Nat := 1000000000000
section
variable {P : Program} {w : World} {K : PySem.W.Frag} {mg : Str → Option Value} {base : Heap}
def RWeave : RC := fun c n ss Pd => ∃ m : Int, ss = [.ref c, .d (.int m)] ∧ 0 < m ∧ m < 1000000 ∧ n < topN ∧ ∀ r, 0 ≤ r → r < m → Pd (n + 1) (.d (.int r))
theorem q_weave {f : Addr} {fd : FuncData} (F : Fun K "_law_weave" "_law_weave" sWeave f fd) : FnOk P w K mg base CX0 1 f fd ["_law_loom_here", "_law_many"] (spC (FLoom P w) 2 RWeave) := by
  refine (ok_weave F).imp fun vs H Q E h => ?_
  obtain ⟨D, hid, n, ss, Pd, ⟨c, d, rfl⟩, _, ho, hin, hst, h2, ⟨m, rfl, m0, m1, hn, k⟩, kk⟩ := h
  cases h2 with
  | cons a t =>
    cases t with
    | cons b t =>
      cases t
      cases b
      cases a
      refine ⟨c, d, n, m, rfl, hst, m0, m1, hn, fun r H' e st r0 r1 => kk (n + 1) _ _ H' (k r r0 r1) (fun x o hx => ?_) st (.int r)⟩
      obtain ⟨nx, hx⟩ := hide_some hx
      exact e x o nx hx
theorem q_loom {f : Addr} {fd : FuncData} (F : Fun K "_law_loom" "_law_loom" sLoom f fd) (T : Blt mg) : FnOk P w K mg base CX0 1 f fd ["_law_script"] (spLm (FLoom P w) K) := by
  refine (ok_loom F T).imp fun vs H Q E h => ?_
  obtain ⟨a, ns, rfl, hS, hl, k⟩ := h
  exact ⟨a, ns, rfl, hS, hl, fun c d H' e n1 n2 st => k (loomD P w c d) H' ⟨c, d, rfl⟩ e (fun b hb => by rcases hb with rfl | rfl <;> assumption) st⟩
theorem perm_get {α : Type} : ∀ {l : List α} {i : Nat} (h : i < l.length), l.Perm (l[i] :: l.eraseIdx i)
  | x :: r, 0, _ => by simp
  | x :: r, i + 1, h => by
    have ih := perm_get (l := r) (i := i) (by simpa using h)
    simp only [List.getElem_cons_succ, List.eraseIdx_cons_succ]
    exact (ih.cons x).trans (List.Perm.swap _ _ _)
theorem map_erase {α β : Type} (f : α → β) : ∀ (l : List α) (i : Nat), (l.map f).eraseIdx i = (l.eraseIdx i).map f
  | [], _ => by simp
  | x :: r, 0 => by simp
  | x :: r, i + 1 => by simp [map_erase f r i]
def RMixed : RC := fun c n ss Pd => ∃ m : Nat, ss = [.ref c, .d (.int m)] ∧ m ≤ 1000 ∧ n + m ≤ topN ∧ ∀ (n' : Nat) (ns : List Int), n' ≤ n + m → ns.Perm (upto m) → Pd n' (.d (.tuple (ns.map .int)))
theorem q_mixed {f : Addr} {fd : FuncData} (F : Fun K "_law_mixed" "_law_mixed" sDLawMixed f fd) (T : Blt mg) (c_law_weave : Cal P w K mg base 1 "_law_weave" ["_law_loom_here", "_law_many"] (spC (FLoom P w) 2 RWeave)) : FnOk P w K mg base CX0 2 f fd ["_law_loom_here", "_law_many"] (spC (FLoom P w) 2 RMixed) := by
  refine okC F scDLawMixed fun cdv A outer s H E hr => ⟨_, (pss_cons (parO11 (ps_par (i := 2) (j := 3) rfl scDLawMixed.nd rfl rfl (by decide) rfl rfl (pa_cons (pe_listRg rfl rfl T.list (prg_1 rfl T.range (pv 1))) (pa_cons (pe_lst pa_nil) pa_nil)) rfl))
    (pss_cons (ps_while PassesOwn.never (pt_cmpR (ko_neNX (K := K) rfl hr.units) (pv 2) (pe_lst pa_nil) (nomark _)) (pss_one (ps_expr (pe_bm PySem.F.plainAttrs_list PySem.F.slot_list_append PySem.F.type_list_append mt_append (pv 3) (pa_cons (pe_bm PySem.F.plainAttrs_list PySem.F.slot_list_pop PySem.F.type_list_pop mt_popAt (pv 2) (pa_cons (pe_cal c_law_weave (hr.mono (by decide)) rfl (pa_cons (pv 0) (pa_cons (pe_callB (k_lenX (K := K) rfl) rfl T.len bt_len (pa_cons (pv 2) pa_nil)) pa_nil))) pa_nil)) pa_nil)))))
    (pss_one (ps_ret (pe_callTy (k_tupX (K := K) rfl) rfl T.tuple bt_tuple (pa_cons (pv 3) pa_nil)))))), fun D _ => ⟨_, inferInstance, fun n ss Pd hl hR => ?_⟩⟩
  obtain ⟨m, rfl, hm, hn, k⟩ := hR
  simp only [List.map_cons, List.map_nil, List.length_cons, List.length_nil, List.cons_append, List.nil_append, List.replicate_succ, List.replicate_zero, Nat.reduceAdd, Nat.reduceSub]; open_z
  refine ⟨by decide, ⟨by omega, by omega, by omega, by omega⟩, ?_⟩
  rw [rgI_upto]
  refine ⟨fun z q ρ => ∃ rest found : List Int, rest.length = z ∧ q + z ≤ n + m ∧ (found ++ rest).Perm (upto m) ∧ ρ = [some (.ref D.c), some (.d (.int m)), some (.own (rest.map .int)), some (.own (found.map .int))], ⟨m, upto m, [], upto_len m, Nat.le_refl _, by simp, rfl⟩, ?_⟩
  rintro z q _ ⟨rest, found, hz, hq, hp, rfl⟩
  have hle : found.length + rest.length = m := by
    have := hp.length_eq
    rw [List.length_append, upto_len] at this
    exact this
  open_z
  cases rest with
  | nil =>
    simp only [↓wSeq, ↓wNext, ↓wIfS, ↓wRet, ↓wRetN, ↓wAsg, ↓wDrop, ↓wOp, ↓wUn, ↓wC, ↓wTy, ↓wRef, ↓wB, ↓wAnd, ↓wOr, ↓wNot, ↓wYes, ↓wAndV, ↓wOrV, ↓wNotV, ↓wIf, ↓wChain, ↓wNil, ↓wCons, ↓wTup, ↓wLst, ↓wNoPart, ↓wPart, ↓wSl, ↓wCB, ↓wIt, ↓wRng1, ↓wRng2, ↓wCall, ↓wCallB, ↓wfLst, ↓wfLstOf, ↓wOfF, ↓wForS, ↓wIxm, ↓wRev, ↓wDnew, ↓wRg1, ↓wRg2, ↓wTupRg, ↓wfLstRg, ↓wSeqX, ↓wIfX, ↓wDropX, ↓wRetX, ↓wAsgX, ↓wForX, ↓wCallX, ↓wCallXS, ↓wCall0, ↓wCallS0, ↓wRz1, ↓wRz0, ↓wIfXE, ↓wDispI, ↓wCnt, ↓wXf, ↓wClsT, ↓wgNil, ↓asDs_nil, ↓asDs_cons, ↓asDs_map, ↓asIs_ints, ↓k_var, ↓k_varB, ↓getK_s, ↓getK_d, ↓getK_o, ↓getK_t, ↓getK_r, ↓getB_s, ↓getB_d, ↓getB_o, ↓getB_t, ↓getB_r, ↓getB_w, ↓getO_s, ↓getO_w, ↓setK_s, ↓setK_0, ↓wipeK_n, ↓wipeK_c, ↓k_name, ↓k_lc, ↓k_aug, ↓k_own, ↓k_app, ↓k_rel, ↓k_relX, ↓k_par, ↓k_par3, ↓k_par01, ↓k_par11, ↓k_put, ↓k_appPop, ↓k_try, ↓k_rem, ↓k_lcW, ↓wForW, ↓wForWX, ↓wEnum, ↓rowsD, ↓wStar, ↓wLenSet, ↓wPick, ↓wRun, ↓ite_tt, ↓ite_ff, ↓getB_l, ↓getO2_s, ↓getO2_w, ↓dropK_n, ↓dropK_c, ↓dl1_n, ↓dl1_d, ↓dl1_o, ↓dl1_t, ↓dl1_r, ↓dl1_w, ↓dl1_w2, ↓dl1_l, ↓setAllK_c, ↓setAllK_n, ↓freeK_s, ↓freeK_n, ↓freeK_d, ↓k_ix2, ↓k_app2, ↓k_put2, ↓k_forO, ↓k_parN, ↓k_wpF, ↓k_wpF2, ↓wpE, ↓wfSl, ↓wf2Nil, ↓wGPlain, ↓wG0, ↓wGThen, ↓wGIf, ↓wGYield, ↓wGForS, ↓wLstG, ↓wEnumS, ↓wM1, ↓fCntS, ↓fJoin, ↓fSplit, ↓wRevS, ↓asTs_map, ↓k_tryE, ↓wOpX, ↓asDs_app, ↓fIntS, ↓fInT, ↓wFld, ↓wPropQ, ↓wPropX, ↓wInQ, ↓wIxQ, ↓wMake, ↓wMake0, ↓wEqQ, ↓k_callIQ, ↓wRevT, ↓nE, ↓nT, ↓nA, ↓nI, ↓nOp, ↓nUn, ↓nCons, ↓nTup, ↓nLst, ↓nCB, ↓nB, ↓nAnd, ↓nOr, ↓nNot, ↓nIf, ↓nO, ↓nPart, ↓nIt, ↓nRng1, ↓nRng2, ↓k_nLc, ↓nCall, ↓nS, ↓nSeq, ↓nDrop, ↓nRet, ↓nIfS, ↓nAsg, ↓k_nPar, ↓k_nPar3, ↓k_nParN, ↓wCKw, ↓q_fMaxD, ↓ncomp_lift, ↓nCat, ↓nTimes, ↓k_nFlc, ↓asL2_l, ↓nForS, ↓k_nApp, ↓k_nAppPop, ↓k_nPut, ↓k_nOwn, ↓k_nRel, ↓k_nOpen, ↓nF, ↓nSl, ↓q_fI_1, ↓q_fI0_1, ↓q_fAdd_1, ↓q_fAdd_2, ↓q_fAdd_3, ↓q_fAdd_4, ↓q_fEq_1, ↓q_fNe_1, ↓q_fIn_1, ↓q_fIn_2, ↓q_fIx_1, ↓q_fIx_2, ↓q_fIx_3, ↓q_fIsN_1, ↓q_fU_1, ↓q_asB_1, ↓q_asI_1, ↓q_fSl_1, ↓q_fSl_2, ↓q_fSl_3, ↓q_fLen_1, ↓q_fLen_2, ↓q_fLen_3, ↓q_fLen_4, ↓q_fIsi_1, ↓q_itD_1, ↓q_itD_2, ↓q_itD_3, ↓q_asR1_1, ↓q_asR2_1, ↓q_wgCons_1, ↓q_wgCons_2, ↓q_wgTup_1, ↓q_as2_1, ↓q_as3_1, ↓q_fLstOf_1, ↓q_fLstOf_2, ↓q_fTupOf_1, ↓q_fTupOf_2, ↓q_asD_1, ↓q_fMul_1, ↓q_fMul_2, ↓q_fMul_3, ↓q_fInt_1, ↓q_fInt_2, ↓q_fRepr_1, ↓q_fMin_1, ↓q_fMin_2, ↓q_fAll_1, ↓q_asSeq_1, ↓q_asSeq_2, ↓q_asL_1, ↓q_fNil_1, ↓q_fNil_2, ↓q_fEqS_1, ↓q_fNeS_1, ↓q_asTu_1, ↓q_fSort_1, ↓q_fSort_2, ↓q_fAny_1, ↓q_fMax_1, ↓q_fMax_2, ↓q_fSum_1, ↓q_fStr_1, ↓q_asS_1, ↓q_asS1_1, ↓k_ext, ↓q_exL, ↓q_fMulS, ↓q_fMulT, ↓q_fSortT, ↓fNinT, ↓q_fStr2_1, ↓q_fStr2_2, List.map_cons, List.map_nil, List.length_cons, List.length_nil, List.cons_append, List.nil_append, List.replicate_succ, List.replicate_zero, Option.map_some, Option.map_none, ite_true, ite_false, if_true, if_false, Nat.reduceAdd, Nat.reduceSub, Nat.reduceLeDiff, Bool.false_eq_true, Bool.not_true, Bool.not_false, Bool.true_and, Bool.and_true, Bool.false_and, Bool.and_false, true_and, and_true, Bool.bne_true, Bool.bne_false, Bool.false_bne, Bool.true_bne, bne_self_eq_false, List.isEmpty_nil]
    exact k q found (by omega) (by simpa using hp)
  | cons x r =>
    simp only [↓wSeq, ↓wNext, ↓wIfS, ↓wRet, ↓wRetN, ↓wAsg, ↓wDrop, ↓wOp, ↓wUn, ↓wC, ↓wTy, ↓wRef, ↓wB, ↓wAnd, ↓wOr, ↓wNot, ↓wYes, ↓wAndV, ↓wOrV, ↓wNotV, ↓wIf, ↓wChain, ↓wNil, ↓wCons, ↓wTup, ↓wLst, ↓wNoPart, ↓wPart, ↓wSl, ↓wCB, ↓wIt, ↓wRng1, ↓wRng2, ↓wCall, ↓wCallB, ↓wfLst, ↓wfLstOf, ↓wOfF, ↓wForS, ↓wIxm, ↓wRev, ↓wDnew, ↓wRg1, ↓wRg2, ↓wTupRg, ↓wfLstRg, ↓wSeqX, ↓wIfX, ↓wDropX, ↓wRetX, ↓wAsgX, ↓wForX, ↓wCallX, ↓wCallXS, ↓wCall0, ↓wCallS0, ↓wRz1, ↓wRz0, ↓wIfXE, ↓wDispI, ↓wCnt, ↓wXf, ↓wClsT, ↓wgNil, ↓asDs_nil, ↓asDs_cons, ↓asDs_map, ↓asIs_ints, ↓k_var, ↓k_varB, ↓getK_s, ↓getK_d, ↓getK_o, ↓getK_t, ↓getK_r, ↓getB_s, ↓getB_d, ↓getB_o, ↓getB_t, ↓getB_r, ↓getB_w, ↓getO_s, ↓getO_w, ↓setK_s, ↓setK_0, ↓wipeK_n, ↓wipeK_c, ↓k_name, ↓k_lc, ↓k_aug, ↓k_own, ↓k_app, ↓k_rel, ↓k_relX, ↓k_par, ↓k_par3, ↓k_par01, ↓k_par11, ↓k_put, ↓k_appPop, ↓k_try, ↓k_rem, ↓k_lcW, ↓wForW, ↓wForWX, ↓wEnum, ↓rowsD, ↓wStar, ↓wLenSet, ↓wPick, ↓wRun, ↓ite_tt, ↓ite_ff, ↓getB_l, ↓getO2_s, ↓getO2_w, ↓dropK_n, ↓dropK_c, ↓dl1_n, ↓dl1_d, ↓dl1_o, ↓dl1_t, ↓dl1_r, ↓dl1_w, ↓dl1_w2, ↓dl1_l, ↓setAllK_c, ↓setAllK_n, ↓freeK_s, ↓freeK_n, ↓freeK_d, ↓k_ix2, ↓k_app2, ↓k_put2, ↓k_forO, ↓k_parN, ↓k_wpF, ↓k_wpF2, ↓wpE, ↓wfSl, ↓wf2Nil, ↓wGPlain, ↓wG0, ↓wGThen, ↓wGIf, ↓wGYield, ↓wGForS, ↓wLstG, ↓wEnumS, ↓wM1, ↓fCntS, ↓fJoin, ↓fSplit, ↓wRevS, ↓asTs_map, ↓k_tryE, ↓wOpX, ↓asDs_app, ↓fIntS, ↓fInT, ↓wFld, ↓wPropQ, ↓wPropX, ↓wInQ, ↓wIxQ, ↓wMake, ↓wMake0, ↓wEqQ, ↓k_callIQ, ↓wRevT, ↓nE, ↓nT, ↓nA, ↓nI, ↓nOp, ↓nUn, ↓nCons, ↓nTup, ↓nLst, ↓nCB, ↓nB, ↓nAnd, ↓nOr, ↓nNot, ↓nIf, ↓nO, ↓nPart, ↓nIt, ↓nRng1, ↓nRng2, ↓k_nLc, ↓nCall, ↓nS, ↓nSeq, ↓nDrop, ↓nRet, ↓nIfS, ↓nAsg, ↓k_nPar, ↓k_nPar3, ↓k_nParN, ↓wCKw, ↓q_fMaxD, ↓ncomp_lift, ↓nCat, ↓nTimes, ↓k_nFlc, ↓asL2_l, ↓nForS, ↓k_nApp, ↓k_nAppPop, ↓k_nPut, ↓k_nOwn, ↓k_nRel, ↓k_nOpen, ↓nF, ↓nSl, ↓q_fI_1, ↓q_fI0_1, ↓q_fAdd_1, ↓q_fAdd_2, ↓q_fAdd_3, ↓q_fAdd_4, ↓q_fEq_1, ↓q_fNe_1, ↓q_fIn_1, ↓q_fIn_2, ↓q_fIx_1, ↓q_fIx_2, ↓q_fIx_3, ↓q_fIsN_1, ↓q_fU_1, ↓q_asB_1, ↓q_asI_1, ↓q_fSl_1, ↓q_fSl_2, ↓q_fSl_3, ↓q_fLen_1, ↓q_fLen_2, ↓q_fLen_3, ↓q_fLen_4, ↓q_fIsi_1, ↓q_itD_1, ↓q_itD_2, ↓q_itD_3, ↓q_asR1_1, ↓q_asR2_1, ↓q_wgCons_1, ↓q_wgCons_2, ↓q_wgTup_1, ↓q_as2_1, ↓q_as3_1, ↓q_fLstOf_1, ↓q_fLstOf_2, ↓q_fTupOf_1, ↓q_fTupOf_2, ↓q_asD_1, ↓q_fMul_1, ↓q_fMul_2, ↓q_fMul_3, ↓q_fInt_1, ↓q_fInt_2, ↓q_fRepr_1, ↓q_fMin_1, ↓q_fMin_2, ↓q_fAll_1, ↓q_asSeq_1, ↓q_asSeq_2, ↓q_asL_1, ↓q_fNil_1, ↓q_fNil_2, ↓q_fEqS_1, ↓q_fNeS_1, ↓q_asTu_1, ↓q_fSort_1, ↓q_fSort_2, ↓q_fAny_1, ↓q_fMax_1, ↓q_fMax_2, ↓q_fSum_1, ↓q_fStr_1, ↓q_asS_1, ↓q_asS1_1, ↓k_ext, ↓q_exL, ↓q_fMulS, ↓q_fMulT, ↓q_fSortT, ↓fNinT, ↓q_fStr2_1, ↓q_fStr2_2, List.map_cons, List.map_nil, List.length_cons, List.length_nil, List.cons_append, List.nil_append, List.replicate_succ, List.replicate_zero, Option.map_some, Option.map_none, ite_true, ite_false, if_true, if_false, Nat.reduceAdd, Nat.reduceSub, Nat.reduceLeDiff, Bool.false_eq_true, Bool.not_true, Bool.not_false, Bool.true_and, Bool.and_true, Bool.false_and, Bool.and_false, true_and, and_true, Bool.bne_true, Bool.bne_false, Bool.false_bne, Bool.true_bne, bne_self_eq_false, List.isEmpty_cons, List.length_map]
    have hz : r.length + 1 = z := by simpa using hz
    have hle : found.length + (r.length + 1) = m := by simpa using hle
    refine ⟨by decide, by omega, _, rfl, by omega, by omega, by omega, fun i i0 i1 => ?_⟩
    have lt : i.toNat < (x :: r).length := by simp; omega
    open_z
    refine ⟨i0, by omega, .int (x :: r)[i.toNat], ?_, z - 1, by omega, (x :: r).eraseIdx i.toNat, found ++ [(x :: r)[i.toNat]], ?_, by omega, ?_, ?_⟩
    · rw [← List.map_cons (f := PyData.int), List.getElem?_map, List.getElem?_eq_getElem lt]
      rfl
    · rw [List.length_eraseIdx_of_lt lt]; simp; omega
    · refine List.Perm.trans ?_ hp
      rw [List.append_assoc]
      refine List.Perm.append_left _ ?_
      have e := List.perm_append_comm (l₁ := [(x :: r)[i.toNat]]) (l₂ := (x :: r).eraseIdx i.toNat)
      have e2 : (x :: r).Perm ((x :: r)[i.toNat] :: (x :: r).eraseIdx i.toNat) := perm_get lt
      exact e2.symm
    · rw [← List.map_cons (f := PyData.int), map_erase, List.map_append]
      rfl
theorem upto_nodup (n : Nat) : (upto n).Nodup := by
  unfold upto
  exact List.Pairwise.map _ (fun a b hab z => hab (Int.ofNat.inj z)) List.nodup_range
theorem moved_perm {q : Int} : ∀ {ns : List Int}, ns.Nodup → q ∈ ns → (ns.filter (fun l => !(l == q)) ++ [q]).Perm ns
  | x :: r, nd, h => by
    rw [List.nodup_cons] at nd
    by_cases e : x = q
    · subst e
      have : r.filter (fun l => !(l == x)) = r := List.filter_eq_self.mpr fun y hy => by
        have : y ≠ x := fun z => nd.1 (z ▸ hy)
        simp [this]
      simp only [List.filter_cons, beq_self_eq_true, Bool.not_true, Bool.false_eq_true, if_false, this]
      exact List.perm_append_comm
    · have hm : q ∈ r := by
        rcases List.mem_cons.mp h with z | z
        · exact absurd z.symm e
        · exact z
      have : (!(x == q)) = true := by simp [e]
      simp only [List.filter_cons, this, if_true, List.cons_append]
      exact (moved_perm nd.2 hm).cons x
theorem prefs_d {n : Nat} : ∀ {ys : List PyData}, (∀ y ∈ ys, ∃ ps : List Int, ps.Perm (upto n) ∧ y = prefD ps) → ∃ ps : List (List Int), ys = ps.map prefD ∧ ∀ p ∈ ps, p.Perm (upto n)
  | [], _ => ⟨[], rfl, fun p h => by cases h⟩
  | y :: r, h => by
    obtain ⟨p, hp, rfl⟩ := h y (by simp)
    obtain ⟨ps, rfl, hps⟩ := prefs_d (ys := r) fun z hz => h z (by simp [hz])
    refine ⟨p :: ps, rfl, fun q hq => ?_⟩
    rcases List.mem_cons.mp hq with rfl | hq
    · exact hp
    · exact hps q hq
theorem rgI_app {k : Int} {m : Nat} (h0 : 0 ≤ k) (h1 : k ≤ m) : rgI 0 k ++ rgI k m = upto m := by
  unfold rgI upto
  have e : m = k.toNat + ((m : Int) - k).toNat := by omega
  conv => rhs; rw [e, List.range_add, List.map_append]
  rw [show ((k : Int) - 0).toNat = k.toNat by omega]
  congr 1
  · apply List.map_congr_left
    intro i _
    show 0 + (i : Int) = Int.ofNat i
    simp
  · rw [List.map_map]
    apply List.map_congr_left
    intro i _
    show k + (i : Int) = Int.ofNat (k.toNat + i)
    simp
    omega
def RRule : RC := fun c n ss Pd => ∃ u : Int, ss = [.ref c, .d (.int u)] ∧ 1 ≤ u ∧ u ≤ 6 ∧ n + 100 ≤ topN ∧ ∀ (n' m : Nat) (ps : List (List Int)), n' ≤ n + 100 → (m : Int) ≤ u → RuleOk m ps → Pd n' (.d (ruleD ps))
theorem q_rule {f : Addr} {fd : FuncData} (F : Fun K "_law_rule" "_law_rule" sDLawRule f fd) (T : Blt mg) (c_law_weave : Cal P w K mg base 1 "_law_weave" ["_law_loom_here", "_law_many"] (spC (FLoom P w) 2 RWeave))
    (c_law_mixed : Cal P w K mg base 2 "_law_mixed" ["_law_loom_here", "_law_many"] (spC (FLoom P w) 2 RMixed)) : FnOk P w K mg base CX0 3 f fd ["_law_loom_here", "_law_top"] (spC (FLoom P w) 2 RRule) := by
  refine okC F scDLawRule fun cdv A outer s H E hr => ⟨_, (pss_cons (ps_asg (pe_tupF (pa_cons (pe_op (ko_add (K := K) rfl) pe_int (pe_cal c_law_weave (hr.mono (by decide)) rfl (pa_cons (pv 0) (pa_cons (pv 1) pa_nil)))) (pa_cons (pe_cal c_law_weave (hr.mono (by decide)) rfl (pa_cons (pv 0) (pa_cons pe_int pa_nil))) pa_nil))) (pg_tup (n := 2) rfl (pgs_cons (pg_name (i := 2) scDLawRule.nd rfl (Or.inr rfl)) (pgs_cons (pg_name (i := 3) scDLawRule.nd rfl (Or.inl rfl)) pgs_nil))))
    (pss_cons (ps_set (i := 4) scDLawRule.nd rfl (Or.inr rfl) (pe_cal c_law_mixed (hr.mono (by decide)) rfl (pa_cons (pv 0) (pa_cons (pv 2) pa_nil))))
    (pss_cons (ps_own (i := 5) scDLawRule.nd rfl (Or.inl rfl) (pe_op (ko_add (K := K) rfl) (pe_lst (pa_cons (pv 4) pa_nil)) (lcQ (vs := [6]) rfl (pe_lc (own := [("_law_q", 6)]) (g := gName 6)  (by rfl) scDLawRule.nd (pi_range1 rfl T.range (pa_cons (pv 2) pa_nil)) (blkOk_by (own := [("_law_q", 6)]) (N := nDLawRule) (sc := defScope sDLawRule) (by decide +kernel)) (fun _ _ _ _ _ => (pg_name (i := 6) scDLawRule.nd rfl (Or.inr rfl))) (fun _ _ _ _ _ => pts_nil) (fun _ _ _ _ _ => (pe_op (ko_add (K := K) rfl) (pe_callTy (k_tupX (K := K) rfl) rfl T.tuple bt_tuple (pa_cons (lcQ (vs := [7]) rfl (pe_lc (own := [("_law_one", 7)]) (g := gName 7)  (by rfl) scDLawRule.nd (ki_any (K := K) rfl (pv 4)) (blkOk_by (own := [("_law_one", 7)]) (N := nDLawRule) (by kernel_rfl)) (fun _ _ _ _ _ => (pg_name (i := 7) scDLawRule.nd rfl (Or.inl rfl))) (fun _ _ _ _ _ => pts_one (pt_cmpR (ko_neD (K := K) rfl hr.units) (pv 7) (pv 6) (nomark _))) (fun _ _ _ _ _ => (pv 7)))) pa_nil)) (pe_tupF (pa_cons (pv 6) pa_nil))))))))
    (pss_cons (ps_if (pt_cmpR (ko_eqD (K := K) rfl hr.units) (pv 3) pe_int (nomark _)) (pss_one (lcO (vs := [8]) rfl (ps_setLc (i := 5) (own := [("_law_k", 8)]) (g := gName 8)  (by rfl) scDLawRule.nd rfl rfl (sw_true rfl rfl rfl (by decide +kernel)) (pi_range1 rfl T.range (pa_cons (pe_op (ko_add (K := K) rfl) (pv 2) pe_int) pa_nil)) (blkOk_by (own := [("_law_k", 8)]) (N := nDLawRule) (sc := defScope sDLawRule) (by decide +kernel)) (fun _ _ _ _ _ => (pg_name (i := 8) scDLawRule.nd rfl (Or.inl rfl))) (fun _ _ _ _ _ => pts_nil) (fun _ _ _ _ _ => (pe_cal c_law_mixed (hr.mono (by decide)) rfl (pa_cons (pv 0) (pa_cons (pv 2) pa_nil))))))) pss_nil)
    (pss_cons (ps_if (pt_cmpR (ko_eqD (K := K) rfl hr.units) (pv 3) pe_int (nomark _)) (pss_one (ps_own (i := 5) scDLawRule.nd rfl (Or.inl rfl) (pe_op (ko_add (K := K) rfl) (pe_lst (pa_cons (pv 4) pa_nil)) (lcQ (vs := [6]) rfl (pe_lc (own := [("_law_q", 6)]) (g := gName 6)  (by rfl) scDLawRule.nd (pi_range1 rfl T.range (pa_cons (pv 2) pa_nil)) (blkOk_by (own := [("_law_q", 6)]) (N := nDLawRule) (sc := defScope sDLawRule) (by decide +kernel)) (fun _ _ _ _ _ => (pg_name (i := 6) scDLawRule.nd rfl (Or.inl rfl))) (fun _ _ _ _ _ => pts_nil) (fun _ _ _ _ _ => (pe_callTy (k_tupX (K := K) rfl) rfl T.tuple bt_tuple (pa_cons (pe_op (ko_add (K := K) rfl) (pe_listRg rfl rfl T.list (prg_2 rfl T.range (pe_op (ko_add (K := K) rfl) (pv 6) pe_int) (pv 2))) (pe_listRg rfl rfl T.list (prg_1 rfl T.range (pe_op (ko_add (K := K) rfl) (pv 6) pe_int)))) pa_nil)))))))) pss_nil)
    (pss_cons (ps_if (pt_cmpR (ko_eqD (K := K) rfl hr.units) (pv 3) pe_int (nomark _)) (pss_one (ps_own (i := 5) scDLawRule.nd rfl (Or.inl rfl) (pe_op (ko_mul (K := K) rfl) (pe_lst (pa_cons (pv 4) pa_nil)) (pe_op (ko_add (K := K) rfl) (pv 2) pe_int)))) pss_nil)
    (pss_cons (ps_if (pt_cmpR op_gt (pv 3) pe_int (nomark _)) (pss_one (ps_asg (pe_cal c_law_mixed (hr.mono (by decide)) rfl (pa_cons (pv 0) (pa_cons (pv 2) pa_nil))) (pg_sub (pv 5) (pe_cal c_law_weave (hr.mono (by decide)) rfl (pa_cons (pv 0) (pa_cons (pe_op (ko_add (K := K) rfl) (pv 2) pe_int) pa_nil))) set_list))) pss_nil)
    (pss_one (ps_ret (pe_callTy (k_tupX (K := K) rfl) rfl T.tuple bt_tuple (pa_cons (pv 5) pa_nil))))))))))), fun D _ => ⟨_, inferInstance, fun n ss Pd hl hR => ?_⟩⟩
  obtain ⟨u, rfl, u1, u6, hn, k⟩ := hR
  simp only [List.map_cons, List.map_nil, List.length_cons, List.length_nil, List.cons_append, List.nil_append, List.replicate_succ, List.replicate_zero, Nat.reduceAdd, Nat.reduceSub]; open_z
  refine ⟨_, rfl, by omega, by omega, by omega, fun r r0 r1 => ?_⟩
  open_z
  refine ⟨_, rfl, by omega, by omega, by omega, fun y y0 y1 => ?_⟩
  obtain ⟨m, hm⟩ : ∃ m : Nat, (m : Int) = 1 + r := ⟨(1 + r).toNat, by omega⟩
  rw [← hm]
  open_z
  refine ⟨m, rfl, by omega, by omega, fun n2 ns hn2 hp => ?_⟩
  have m1 : 1 ≤ m := by omega
  have m6 : m ≤ 6 := by omega
  have len : ns.length = m := by rw [hp.length_eq, upto_len]
  have tn : ((m : Int)).toNat = m := by omega
  have tn1 : ((m : Int) + 1).toNat = m + 1 := by omega
  have good : ∀ n' (ps : List (List Int)), n' ≤ n + 100 → ps.length = m + 1 → (∀ p ∈ ps, p.Perm (upto m)) → Pd n' (.d (.tuple (ps.map prefD))) := fun n' ps h1 h2 h3 => k n' m ps h1 (by omega) ⟨m1, h2, h3⟩
  simp only [↓wSeq, ↓wNext, ↓wIfS, ↓wRet, ↓wRetN, ↓wAsg, ↓wDrop, ↓wOp, ↓wUn, ↓wC, ↓wTy, ↓wRef, ↓wB, ↓wAnd, ↓wOr, ↓wNot, ↓wYes, ↓wAndV, ↓wOrV, ↓wNotV, ↓wIf, ↓wChain, ↓wNil, ↓wCons, ↓wTup, ↓wLst, ↓wNoPart, ↓wPart, ↓wSl, ↓wCB, ↓wIt, ↓wRng1, ↓wRng2, ↓wCall, ↓wCallB, ↓wfLst, ↓wfLstOf, ↓wOfF, ↓wForS, ↓wIxm, ↓wRev, ↓wDnew, ↓wRg1, ↓wRg2, ↓wTupRg, ↓wfLstRg, ↓wSeqX, ↓wIfX, ↓wDropX, ↓wRetX, ↓wAsgX, ↓wForX, ↓wCallX, ↓wCallXS, ↓wCall0, ↓wCallS0, ↓wRz1, ↓wRz0, ↓wIfXE, ↓wDispI, ↓wCnt, ↓wXf, ↓wClsT, ↓wgNil, ↓asDs_nil, ↓asDs_cons, ↓asDs_map, ↓asIs_ints, ↓k_var, ↓k_varB, ↓getK_s, ↓getK_d, ↓getK_o, ↓getK_t, ↓getK_r, ↓getB_s, ↓getB_d, ↓getB_o, ↓getB_t, ↓getB_r, ↓getB_w, ↓getO_s, ↓getO_w, ↓setK_s, ↓setK_0, ↓wipeK_n, ↓wipeK_c, ↓k_name, ↓k_lc, ↓k_aug, ↓k_own, ↓k_app, ↓k_rel, ↓k_relX, ↓k_par, ↓k_par3, ↓k_par01, ↓k_par11, ↓k_put, ↓k_appPop, ↓k_try, ↓k_rem, ↓k_lcW, ↓wForW, ↓wForWX, ↓wEnum, ↓rowsD, ↓wStar, ↓wLenSet, ↓wPick, ↓wRun, ↓ite_tt, ↓ite_ff, ↓getB_l, ↓getO2_s, ↓getO2_w, ↓dropK_n, ↓dropK_c, ↓dl1_n, ↓dl1_d, ↓dl1_o, ↓dl1_t, ↓dl1_r, ↓dl1_w, ↓dl1_w2, ↓dl1_l, ↓setAllK_c, ↓setAllK_n, ↓freeK_s, ↓freeK_n, ↓freeK_d, ↓k_ix2, ↓k_app2, ↓k_put2, ↓k_forO, ↓k_parN, ↓k_wpF, ↓k_wpF2, ↓wpE, ↓wfSl, ↓wf2Nil, ↓wGPlain, ↓wG0, ↓wGThen, ↓wGIf, ↓wGYield, ↓wGForS, ↓wLstG, ↓wEnumS, ↓wM1, ↓fCntS, ↓fJoin, ↓fSplit, ↓wRevS, ↓asTs_map, ↓k_tryE, ↓wOpX, ↓asDs_app, ↓fIntS, ↓fInT, ↓wFld, ↓wPropQ, ↓wPropX, ↓wInQ, ↓wIxQ, ↓wMake, ↓wMake0, ↓wEqQ, ↓k_callIQ, ↓wRevT, ↓nE, ↓nT, ↓nA, ↓nI, ↓nOp, ↓nUn, ↓nCons, ↓nTup, ↓nLst, ↓nCB, ↓nB, ↓nAnd, ↓nOr, ↓nNot, ↓nIf, ↓nO, ↓nPart, ↓nIt, ↓nRng1, ↓nRng2, ↓k_nLc, ↓nCall, ↓nS, ↓nSeq, ↓nDrop, ↓nRet, ↓nIfS, ↓nAsg, ↓k_nPar, ↓k_nPar3, ↓k_nParN, ↓wCKw, ↓q_fMaxD, ↓ncomp_lift, ↓nCat, ↓nTimes, ↓k_nFlc, ↓asL2_l, ↓nForS, ↓k_nApp, ↓k_nAppPop, ↓k_nPut, ↓k_nOwn, ↓k_nRel, ↓k_nOpen, ↓nF, ↓nSl, ↓q_fI_1, ↓q_fI0_1, ↓q_fAdd_1, ↓q_fAdd_2, ↓q_fAdd_3, ↓q_fAdd_4, ↓q_fEq_1, ↓q_fNe_1, ↓q_fIn_1, ↓q_fIn_2, ↓q_fIx_1, ↓q_fIx_2, ↓q_fIx_3, ↓q_fIsN_1, ↓q_fU_1, ↓q_asB_1, ↓q_asI_1, ↓q_fSl_1, ↓q_fSl_2, ↓q_fSl_3, ↓q_fLen_1, ↓q_fLen_2, ↓q_fLen_3, ↓q_fLen_4, ↓q_fIsi_1, ↓q_itD_1, ↓q_itD_2, ↓q_itD_3, ↓q_asR1_1, ↓q_asR2_1, ↓q_wgCons_1, ↓q_wgCons_2, ↓q_wgTup_1, ↓q_as2_1, ↓q_as3_1, ↓q_fLstOf_1, ↓q_fLstOf_2, ↓q_fTupOf_1, ↓q_fTupOf_2, ↓q_asD_1, ↓q_fMul_1, ↓q_fMul_2, ↓q_fMul_3, ↓q_fInt_1, ↓q_fInt_2, ↓q_fRepr_1, ↓q_fMin_1, ↓q_fMin_2, ↓q_fAll_1, ↓q_asSeq_1, ↓q_asSeq_2, ↓q_asL_1, ↓q_fNil_1, ↓q_fNil_2, ↓q_fEqS_1, ↓q_fNeS_1, ↓q_asTu_1, ↓q_fSort_1, ↓q_fSort_2, ↓q_fAny_1, ↓q_fMax_1, ↓q_fMax_2, ↓q_fSum_1, ↓q_fStr_1, ↓q_asS_1, ↓q_asS1_1, ↓k_ext, ↓q_exL, ↓q_fMulS, ↓q_fMulT, ↓q_fSortT, ↓fNinT, ↓q_fStr2_1, ↓q_fStr2_2, List.map_cons, List.map_nil, List.length_cons, List.length_nil, List.cons_append, List.nil_append, List.replicate_succ, List.replicate_zero, Option.map_some, Option.map_none, ite_true, ite_false, if_true, if_false, Nat.reduceAdd, Nat.reduceSub, Nat.reduceLeDiff, Bool.false_eq_true, Bool.not_true, Bool.not_false, Bool.true_and, Bool.and_true, Bool.false_and, Bool.and_false, true_and, and_true, Bool.bne_true, Bool.bne_false, Bool.false_bne, Bool.true_bne, bne_self_eq_false, tn, tn1]
  refine ⟨by omega, by omega, by rw [rgD_len]; omega, ?_⟩
  rw [rgD_upto]
  refine comp_im (fun q => prefD (ns.filter (fun l => !(l == q)) ++ [q])) (fun q hq K hk => ?_) ?_
  · simp only [wStep, ↓wSeq, ↓wNext, ↓wIfS, ↓wRet, ↓wRetN, ↓wAsg, ↓wDrop, ↓wOp, ↓wUn, ↓wC, ↓wTy, ↓wRef, ↓wB, ↓wAnd, ↓wOr, ↓wNot, ↓wYes, ↓wAndV, ↓wOrV, ↓wNotV, ↓wIf, ↓wChain, ↓wNil, ↓wCons, ↓wTup, ↓wLst, ↓wNoPart, ↓wPart, ↓wSl, ↓wCB, ↓wIt, ↓wRng1, ↓wRng2, ↓wCall, ↓wCallB, ↓wfLst, ↓wfLstOf, ↓wOfF, ↓wForS, ↓wIxm, ↓wRev, ↓wDnew, ↓wRg1, ↓wRg2, ↓wTupRg, ↓wfLstRg, ↓wSeqX, ↓wIfX, ↓wDropX, ↓wRetX, ↓wAsgX, ↓wForX, ↓wCallX, ↓wCallXS, ↓wCall0, ↓wCallS0, ↓wRz1, ↓wRz0, ↓wIfXE, ↓wDispI, ↓wCnt, ↓wXf, ↓wClsT, ↓wgNil, ↓asDs_nil, ↓asDs_cons, ↓asDs_map, ↓asIs_ints, ↓k_var, ↓k_varB, ↓getK_s, ↓getK_d, ↓getK_o, ↓getK_t, ↓getK_r, ↓getB_s, ↓getB_d, ↓getB_o, ↓getB_t, ↓getB_r, ↓getB_w, ↓getO_s, ↓getO_w, ↓setK_s, ↓setK_0, ↓wipeK_n, ↓wipeK_c, ↓k_name, ↓k_lc, ↓k_aug, ↓k_own, ↓k_app, ↓k_rel, ↓k_relX, ↓k_par, ↓k_par3, ↓k_par01, ↓k_par11, ↓k_put, ↓k_appPop, ↓k_try, ↓k_rem, ↓k_lcW, ↓wForW, ↓wForWX, ↓wEnum, ↓rowsD, ↓wStar, ↓wLenSet, ↓wPick, ↓wRun, ↓ite_tt, ↓ite_ff, ↓getB_l, ↓getO2_s, ↓getO2_w, ↓dropK_n, ↓dropK_c, ↓dl1_n, ↓dl1_d, ↓dl1_o, ↓dl1_t, ↓dl1_r, ↓dl1_w, ↓dl1_w2, ↓dl1_l, ↓setAllK_c, ↓setAllK_n, ↓freeK_s, ↓freeK_n, ↓freeK_d, ↓k_ix2, ↓k_app2, ↓k_put2, ↓k_forO, ↓k_parN, ↓k_wpF, ↓k_wpF2, ↓wpE, ↓wfSl, ↓wf2Nil, ↓wGPlain, ↓wG0, ↓wGThen, ↓wGIf, ↓wGYield, ↓wGForS, ↓wLstG, ↓wEnumS, ↓wM1, ↓fCntS, ↓fJoin, ↓fSplit, ↓wRevS, ↓asTs_map, ↓k_tryE, ↓wOpX, ↓asDs_app, ↓fIntS, ↓fInT, ↓wFld, ↓wPropQ, ↓wPropX, ↓wInQ, ↓wIxQ, ↓wMake, ↓wMake0, ↓wEqQ, ↓k_callIQ, ↓wRevT, ↓nE, ↓nT, ↓nA, ↓nI, ↓nOp, ↓nUn, ↓nCons, ↓nTup, ↓nLst, ↓nCB, ↓nB, ↓nAnd, ↓nOr, ↓nNot, ↓nIf, ↓nO, ↓nPart, ↓nIt, ↓nRng1, ↓nRng2, ↓k_nLc, ↓nCall, ↓nS, ↓nSeq, ↓nDrop, ↓nRet, ↓nIfS, ↓nAsg, ↓k_nPar, ↓k_nPar3, ↓k_nParN, ↓wCKw, ↓q_fMaxD, ↓ncomp_lift, ↓nCat, ↓nTimes, ↓k_nFlc, ↓asL2_l, ↓nForS, ↓k_nApp, ↓k_nAppPop, ↓k_nPut, ↓k_nOwn, ↓k_nRel, ↓k_nOpen, ↓nF, ↓nSl, ↓q_fI_1, ↓q_fI0_1, ↓q_fAdd_1, ↓q_fAdd_2, ↓q_fAdd_3, ↓q_fAdd_4, ↓q_fEq_1, ↓q_fNe_1, ↓q_fIn_1, ↓q_fIn_2, ↓q_fIx_1, ↓q_fIx_2, ↓q_fIx_3, ↓q_fIsN_1, ↓q_fU_1, ↓q_asB_1, ↓q_asI_1, ↓q_fSl_1, ↓q_fSl_2, ↓q_fSl_3, ↓q_fLen_1, ↓q_fLen_2, ↓q_fLen_3, ↓q_fLen_4, ↓q_fIsi_1, ↓q_itD_1, ↓q_itD_2, ↓q_itD_3, ↓q_asR1_1, ↓q_asR2_1, ↓q_wgCons_1, ↓q_wgCons_2, ↓q_wgTup_1, ↓q_as2_1, ↓q_as3_1, ↓q_fLstOf_1, ↓q_fLstOf_2, ↓q_fTupOf_1, ↓q_fTupOf_2, ↓q_asD_1, ↓q_fMul_1, ↓q_fMul_2, ↓q_fMul_3, ↓q_fInt_1, ↓q_fInt_2, ↓q_fRepr_1, ↓q_fMin_1, ↓q_fMin_2, ↓q_fAll_1, ↓q_asSeq_1, ↓q_asSeq_2, ↓q_asL_1, ↓q_fNil_1, ↓q_fNil_2, ↓q_fEqS_1, ↓q_fNeS_1, ↓q_asTu_1, ↓q_fSort_1, ↓q_fSort_2, ↓q_fAny_1, ↓q_fMax_1, ↓q_fMax_2, ↓q_fSum_1, ↓q_fStr_1, ↓q_asS_1, ↓q_asS1_1, ↓k_ext, ↓q_exL, ↓q_fMulS, ↓q_fMulT, ↓q_fSortT, ↓fNinT, ↓q_fStr2_1, ↓q_fStr2_2, List.map_cons, List.map_nil, List.length_cons, List.length_nil, List.cons_append, List.nil_append, List.replicate_succ, List.replicate_zero, Option.map_some, Option.map_none, ite_true, ite_false, if_true, if_false, Nat.reduceAdd, Nat.reduceSub, Nat.reduceLeDiff, Bool.false_eq_true, Bool.not_true, Bool.not_false, Bool.true_and, Bool.and_true, Bool.false_and, Bool.and_false, true_and, and_true, Bool.bne_true, Bool.bne_false, Bool.false_bne, Bool.true_bne, bne_self_eq_false]
    refine ⟨by simp [len]; omega, comp_if (fun l => !(l == q)) (fun l hl K2 hk2 => ?_) ?_⟩
    · simp only [wStep, ↓wSeq, ↓wNext, ↓wIfS, ↓wRet, ↓wRetN, ↓wAsg, ↓wDrop, ↓wOp, ↓wUn, ↓wC, ↓wTy, ↓wRef, ↓wB, ↓wAnd, ↓wOr, ↓wNot, ↓wYes, ↓wAndV, ↓wOrV, ↓wNotV, ↓wIf, ↓wChain, ↓wNil, ↓wCons, ↓wTup, ↓wLst, ↓wNoPart, ↓wPart, ↓wSl, ↓wCB, ↓wIt, ↓wRng1, ↓wRng2, ↓wCall, ↓wCallB, ↓wfLst, ↓wfLstOf, ↓wOfF, ↓wForS, ↓wIxm, ↓wRev, ↓wDnew, ↓wRg1, ↓wRg2, ↓wTupRg, ↓wfLstRg, ↓wSeqX, ↓wIfX, ↓wDropX, ↓wRetX, ↓wAsgX, ↓wForX, ↓wCallX, ↓wCallXS, ↓wCall0, ↓wCallS0, ↓wRz1, ↓wRz0, ↓wIfXE, ↓wDispI, ↓wCnt, ↓wXf, ↓wClsT, ↓wgNil, ↓asDs_nil, ↓asDs_cons, ↓asDs_map, ↓asIs_ints, ↓k_var, ↓k_varB, ↓getK_s, ↓getK_d, ↓getK_o, ↓getK_t, ↓getK_r, ↓getB_s, ↓getB_d, ↓getB_o, ↓getB_t, ↓getB_r, ↓getB_w, ↓getO_s, ↓getO_w, ↓setK_s, ↓setK_0, ↓wipeK_n, ↓wipeK_c, ↓k_name, ↓k_lc, ↓k_aug, ↓k_own, ↓k_app, ↓k_rel, ↓k_relX, ↓k_par, ↓k_par3, ↓k_par01, ↓k_par11, ↓k_put, ↓k_appPop, ↓k_try, ↓k_rem, ↓k_lcW, ↓wForW, ↓wForWX, ↓wEnum, ↓rowsD, ↓wStar, ↓wLenSet, ↓wPick, ↓wRun, ↓ite_tt, ↓ite_ff, ↓getB_l, ↓getO2_s, ↓getO2_w, ↓dropK_n, ↓dropK_c, ↓dl1_n, ↓dl1_d, ↓dl1_o, ↓dl1_t, ↓dl1_r, ↓dl1_w, ↓dl1_w2, ↓dl1_l, ↓setAllK_c, ↓setAllK_n, ↓freeK_s, ↓freeK_n, ↓freeK_d, ↓k_ix2, ↓k_app2, ↓k_put2, ↓k_forO, ↓k_parN, ↓k_wpF, ↓k_wpF2, ↓wpE, ↓wfSl, ↓wf2Nil, ↓wGPlain, ↓wG0, ↓wGThen, ↓wGIf, ↓wGYield, ↓wGForS, ↓wLstG, ↓wEnumS, ↓wM1, ↓fCntS, ↓fJoin, ↓fSplit, ↓wRevS, ↓asTs_map, ↓k_tryE, ↓wOpX, ↓asDs_app, ↓fIntS, ↓fInT, ↓wFld, ↓wPropQ, ↓wPropX, ↓wInQ, ↓wIxQ, ↓wMake, ↓wMake0, ↓wEqQ, ↓k_callIQ, ↓wRevT, ↓nE, ↓nT, ↓nA, ↓nI, ↓nOp, ↓nUn, ↓nCons, ↓nTup, ↓nLst, ↓nCB, ↓nB, ↓nAnd, ↓nOr, ↓nNot, ↓nIf, ↓nO, ↓nPart, ↓nIt, ↓nRng1, ↓nRng2, ↓k_nLc, ↓nCall, ↓nS, ↓nSeq, ↓nDrop, ↓nRet, ↓nIfS, ↓nAsg, ↓k_nPar, ↓k_nPar3, ↓k_nParN, ↓wCKw, ↓q_fMaxD, ↓ncomp_lift, ↓nCat, ↓nTimes, ↓k_nFlc, ↓asL2_l, ↓nForS, ↓k_nApp, ↓k_nAppPop, ↓k_nPut, ↓k_nOwn, ↓k_nRel, ↓k_nOpen, ↓nF, ↓nSl, ↓q_fI_1, ↓q_fI0_1, ↓q_fAdd_1, ↓q_fAdd_2, ↓q_fAdd_3, ↓q_fAdd_4, ↓q_fEq_1, ↓q_fNe_1, ↓q_fIn_1, ↓q_fIn_2, ↓q_fIx_1, ↓q_fIx_2, ↓q_fIx_3, ↓q_fIsN_1, ↓q_fU_1, ↓q_asB_1, ↓q_asI_1, ↓q_fSl_1, ↓q_fSl_2, ↓q_fSl_3, ↓q_fLen_1, ↓q_fLen_2, ↓q_fLen_3, ↓q_fLen_4, ↓q_fIsi_1, ↓q_itD_1, ↓q_itD_2, ↓q_itD_3, ↓q_asR1_1, ↓q_asR2_1, ↓q_wgCons_1, ↓q_wgCons_2, ↓q_wgTup_1, ↓q_as2_1, ↓q_as3_1, ↓q_fLstOf_1, ↓q_fLstOf_2, ↓q_fTupOf_1, ↓q_fTupOf_2, ↓q_asD_1, ↓q_fMul_1, ↓q_fMul_2, ↓q_fMul_3, ↓q_fInt_1, ↓q_fInt_2, ↓q_fRepr_1, ↓q_fMin_1, ↓q_fMin_2, ↓q_fAll_1, ↓q_asSeq_1, ↓q_asSeq_2, ↓q_asL_1, ↓q_fNil_1, ↓q_fNil_2, ↓q_fEqS_1, ↓q_fNeS_1, ↓q_asTu_1, ↓q_fSort_1, ↓q_fSort_2, ↓q_fAny_1, ↓q_fMax_1, ↓q_fMax_2, ↓q_fSum_1, ↓q_fStr_1, ↓q_asS_1, ↓q_asS1_1, ↓k_ext, ↓q_exL, ↓q_fMulS, ↓q_fMulT, ↓q_fSortT, ↓fNinT, ↓q_fStr2_1, ↓q_fStr2_2, List.map_cons, List.map_nil, List.length_cons, List.length_nil, List.cons_append, List.nil_append, List.replicate_succ, List.replicate_zero, Option.map_some, Option.map_none, ite_true, ite_false, if_true, if_false, Nat.reduceAdd, Nat.reduceSub, Nat.reduceLeDiff, Bool.false_eq_true, Bool.not_true, Bool.not_false, Bool.true_and, Bool.and_true, Bool.false_and, Bool.and_false, true_and, and_true, Bool.bne_true, Bool.bne_false, Bool.false_bne, Bool.true_bne, bne_self_eq_false, eqv_int]
      refine ⟨rfl, rfl, ?_⟩
      cases h : (l == q) <;> simpa [h] using hk2
    · have : (ns.filter (fun l => !(l == q))).length ≤ ns.length := List.length_filter_le _ _
      refine ⟨by simp; omega, ?_⟩
      unfold prefD at hk
      rw [List.map_append] at hk
      exact hk
  refine ⟨by simp [upto_len]; omega, ?_⟩
  -- the polite rule
  obtain ⟨pol, epol, lpol, hpol⟩ : ∃ ps : List (List Int), PyData.tuple (ns.map PyData.int) :: (upto m).map (fun q => prefD (ns.filter (fun l => !(l == q)) ++ [q])) = ps.map prefD ∧ ps.length = m + 1 ∧ ∀ p ∈ ps, p.Perm (upto m) := by
    refine ⟨ns :: (upto m).map fun q => ns.filter (fun l => !(l == q)) ++ [q], by rw [List.map_cons, List.map_map]; rfl, by simp [upto_len], fun p hp2 => ?_⟩
    rcases List.mem_cons.mp hp2 with rfl | hp2
    · exact hp
    · obtain ⟨q, hq, rfl⟩ := List.mem_map.mp hp2
      exact (moved_perm (hp.nodup_iff.mpr (upto_nodup m)) (hp.mem_iff.mpr hq)).trans hp
  rw [epol]
  have hy : y = 0 ∨ y = 1 ∨ y = 2 ∨ y = 3 ∨ y = 4 := by omega
  have lp : pol.length ≤ 7 := by omega
  have ll : 1 + ((upto m).map fun q => prefD (ns.filter (fun l => !(l == q)) ++ [q])).length ≤ 100000 := by simp [upto_len]; omega
  -- the last step: one preference changed, for a way above 2
  have d0 : ∀ a b : Int, PyData.eqv (.int a) (.int b) = (a == b) := eqv_int
  rcases hy with rfl | rfl | rfl | rfl | rfl
  · refine ⟨rfl, rfl, ?_⟩
    simp only [d0, Int.reduceBEq, ↓wSeq, ↓wNext, ↓wIfS, ↓wRet, ↓wRetN, ↓wAsg, ↓wDrop, ↓wOp, ↓wUn, ↓wC, ↓wTy, ↓wRef, ↓wB, ↓wAnd, ↓wOr, ↓wNot, ↓wYes, ↓wAndV, ↓wOrV, ↓wNotV, ↓wIf, ↓wChain, ↓wNil, ↓wCons, ↓wTup, ↓wLst, ↓wNoPart, ↓wPart, ↓wSl, ↓wCB, ↓wIt, ↓wRng1, ↓wRng2, ↓wCall, ↓wCallB, ↓wfLst, ↓wfLstOf, ↓wOfF, ↓wForS, ↓wIxm, ↓wRev, ↓wDnew, ↓wRg1, ↓wRg2, ↓wTupRg, ↓wfLstRg, ↓wSeqX, ↓wIfX, ↓wDropX, ↓wRetX, ↓wAsgX, ↓wForX, ↓wCallX, ↓wCallXS, ↓wCall0, ↓wCallS0, ↓wRz1, ↓wRz0, ↓wIfXE, ↓wDispI, ↓wCnt, ↓wXf, ↓wClsT, ↓wgNil, ↓asDs_nil, ↓asDs_cons, ↓asDs_map, ↓asIs_ints, ↓k_var, ↓k_varB, ↓getK_s, ↓getK_d, ↓getK_o, ↓getK_t, ↓getK_r, ↓getB_s, ↓getB_d, ↓getB_o, ↓getB_t, ↓getB_r, ↓getB_w, ↓getO_s, ↓getO_w, ↓setK_s, ↓setK_0, ↓wipeK_n, ↓wipeK_c, ↓k_name, ↓k_lc, ↓k_aug, ↓k_own, ↓k_app, ↓k_rel, ↓k_relX, ↓k_par, ↓k_par3, ↓k_par01, ↓k_par11, ↓k_put, ↓k_appPop, ↓k_try, ↓k_rem, ↓k_lcW, ↓wForW, ↓wForWX, ↓wEnum, ↓rowsD, ↓wStar, ↓wLenSet, ↓wPick, ↓wRun, ↓ite_tt, ↓ite_ff, ↓getB_l, ↓getO2_s, ↓getO2_w, ↓dropK_n, ↓dropK_c, ↓dl1_n, ↓dl1_d, ↓dl1_o, ↓dl1_t, ↓dl1_r, ↓dl1_w, ↓dl1_w2, ↓dl1_l, ↓setAllK_c, ↓setAllK_n, ↓freeK_s, ↓freeK_n, ↓freeK_d, ↓k_ix2, ↓k_app2, ↓k_put2, ↓k_forO, ↓k_parN, ↓k_wpF, ↓k_wpF2, ↓wpE, ↓wfSl, ↓wf2Nil, ↓wGPlain, ↓wG0, ↓wGThen, ↓wGIf, ↓wGYield, ↓wGForS, ↓wLstG, ↓wEnumS, ↓wM1, ↓fCntS, ↓fJoin, ↓fSplit, ↓wRevS, ↓asTs_map, ↓k_tryE, ↓wOpX, ↓asDs_app, ↓fIntS, ↓fInT, ↓wFld, ↓wPropQ, ↓wPropX, ↓wInQ, ↓wIxQ, ↓wMake, ↓wMake0, ↓wEqQ, ↓k_callIQ, ↓wRevT, ↓nE, ↓nT, ↓nA, ↓nI, ↓nOp, ↓nUn, ↓nCons, ↓nTup, ↓nLst, ↓nCB, ↓nB, ↓nAnd, ↓nOr, ↓nNot, ↓nIf, ↓nO, ↓nPart, ↓nIt, ↓nRng1, ↓nRng2, ↓k_nLc, ↓nCall, ↓nS, ↓nSeq, ↓nDrop, ↓nRet, ↓nIfS, ↓nAsg, ↓k_nPar, ↓k_nPar3, ↓k_nParN, ↓wCKw, ↓q_fMaxD, ↓ncomp_lift, ↓nCat, ↓nTimes, ↓k_nFlc, ↓asL2_l, ↓nForS, ↓k_nApp, ↓k_nAppPop, ↓k_nPut, ↓k_nOwn, ↓k_nRel, ↓k_nOpen, ↓nF, ↓nSl, ↓q_fI_1, ↓q_fI0_1, ↓q_fAdd_1, ↓q_fAdd_2, ↓q_fAdd_3, ↓q_fAdd_4, ↓q_fEq_1, ↓q_fNe_1, ↓q_fIn_1, ↓q_fIn_2, ↓q_fIx_1, ↓q_fIx_2, ↓q_fIx_3, ↓q_fIsN_1, ↓q_fU_1, ↓q_asB_1, ↓q_asI_1, ↓q_fSl_1, ↓q_fSl_2, ↓q_fSl_3, ↓q_fLen_1, ↓q_fLen_2, ↓q_fLen_3, ↓q_fLen_4, ↓q_fIsi_1, ↓q_itD_1, ↓q_itD_2, ↓q_itD_3, ↓q_asR1_1, ↓q_asR2_1, ↓q_wgCons_1, ↓q_wgCons_2, ↓q_wgTup_1, ↓q_as2_1, ↓q_as3_1, ↓q_fLstOf_1, ↓q_fLstOf_2, ↓q_fTupOf_1, ↓q_fTupOf_2, ↓q_asD_1, ↓q_fMul_1, ↓q_fMul_2, ↓q_fMul_3, ↓q_fInt_1, ↓q_fInt_2, ↓q_fRepr_1, ↓q_fMin_1, ↓q_fMin_2, ↓q_fAll_1, ↓q_asSeq_1, ↓q_asSeq_2, ↓q_asL_1, ↓q_fNil_1, ↓q_fNil_2, ↓q_fEqS_1, ↓q_fNeS_1, ↓q_asTu_1, ↓q_fSort_1, ↓q_fSort_2, ↓q_fAny_1, ↓q_fMax_1, ↓q_fMax_2, ↓q_fSum_1, ↓q_fStr_1, ↓q_asS_1, ↓q_asS1_1, ↓k_ext, ↓q_exL, ↓q_fMulS, ↓q_fMulT, ↓q_fSortT, ↓fNinT, ↓q_fStr2_1, ↓q_fStr2_2, List.map_cons, List.map_nil, List.length_cons, List.length_nil, List.cons_append, List.nil_append, List.replicate_succ, List.replicate_zero, Option.map_some, Option.map_none, ite_true, ite_false, if_true, if_false, Nat.reduceAdd, Nat.reduceSub, Nat.reduceLeDiff, Bool.false_eq_true, Bool.not_true, Bool.not_false, Bool.true_and, Bool.and_true, Bool.false_and, Bool.and_false, true_and, and_true, Bool.bne_true, Bool.bne_false, Bool.false_bne, Bool.true_bne, bne_self_eq_false]
    refine ⟨by omega, by omega, by rw [rgD_len]; omega, ?_⟩
    have mm : m * (m + 1) ≤ 42 := Nat.le_trans (Nat.mul_le_mul m6 (Nat.succ_le_succ m6)) (by decide)
    refine ncomp_any m (fun d => ∃ ps : List Int, ps.Perm (upto m) ∧ d = prefD ps) (fun x hx q hq K hk => ?_) fun q ys hq hl2 hys => ?_
    · rw [rgD_len] at hq
      simp only [nStep, ↓wSeq, ↓wNext, ↓wIfS, ↓wRet, ↓wRetN, ↓wAsg, ↓wDrop, ↓wOp, ↓wUn, ↓wC, ↓wTy, ↓wRef, ↓wB, ↓wAnd, ↓wOr, ↓wNot, ↓wYes, ↓wAndV, ↓wOrV, ↓wNotV, ↓wIf, ↓wChain, ↓wNil, ↓wCons, ↓wTup, ↓wLst, ↓wNoPart, ↓wPart, ↓wSl, ↓wCB, ↓wIt, ↓wRng1, ↓wRng2, ↓wCall, ↓wCallB, ↓wfLst, ↓wfLstOf, ↓wOfF, ↓wForS, ↓wIxm, ↓wRev, ↓wDnew, ↓wRg1, ↓wRg2, ↓wTupRg, ↓wfLstRg, ↓wSeqX, ↓wIfX, ↓wDropX, ↓wRetX, ↓wAsgX, ↓wForX, ↓wCallX, ↓wCallXS, ↓wCall0, ↓wCallS0, ↓wRz1, ↓wRz0, ↓wIfXE, ↓wDispI, ↓wCnt, ↓wXf, ↓wClsT, ↓wgNil, ↓asDs_nil, ↓asDs_cons, ↓asDs_map, ↓asIs_ints, ↓k_var, ↓k_varB, ↓getK_s, ↓getK_d, ↓getK_o, ↓getK_t, ↓getK_r, ↓getB_s, ↓getB_d, ↓getB_o, ↓getB_t, ↓getB_r, ↓getB_w, ↓getO_s, ↓getO_w, ↓setK_s, ↓setK_0, ↓wipeK_n, ↓wipeK_c, ↓k_name, ↓k_lc, ↓k_aug, ↓k_own, ↓k_app, ↓k_rel, ↓k_relX, ↓k_par, ↓k_par3, ↓k_par01, ↓k_par11, ↓k_put, ↓k_appPop, ↓k_try, ↓k_rem, ↓k_lcW, ↓wForW, ↓wForWX, ↓wEnum, ↓rowsD, ↓wStar, ↓wLenSet, ↓wPick, ↓wRun, ↓ite_tt, ↓ite_ff, ↓getB_l, ↓getO2_s, ↓getO2_w, ↓dropK_n, ↓dropK_c, ↓dl1_n, ↓dl1_d, ↓dl1_o, ↓dl1_t, ↓dl1_r, ↓dl1_w, ↓dl1_w2, ↓dl1_l, ↓setAllK_c, ↓setAllK_n, ↓freeK_s, ↓freeK_n, ↓freeK_d, ↓k_ix2, ↓k_app2, ↓k_put2, ↓k_forO, ↓k_parN, ↓k_wpF, ↓k_wpF2, ↓wpE, ↓wfSl, ↓wf2Nil, ↓wGPlain, ↓wG0, ↓wGThen, ↓wGIf, ↓wGYield, ↓wGForS, ↓wLstG, ↓wEnumS, ↓wM1, ↓fCntS, ↓fJoin, ↓fSplit, ↓wRevS, ↓asTs_map, ↓k_tryE, ↓wOpX, ↓asDs_app, ↓fIntS, ↓fInT, ↓wFld, ↓wPropQ, ↓wPropX, ↓wInQ, ↓wIxQ, ↓wMake, ↓wMake0, ↓wEqQ, ↓k_callIQ, ↓wRevT, ↓nE, ↓nT, ↓nA, ↓nI, ↓nOp, ↓nUn, ↓nCons, ↓nTup, ↓nLst, ↓nCB, ↓nB, ↓nAnd, ↓nOr, ↓nNot, ↓nIf, ↓nO, ↓nPart, ↓nIt, ↓nRng1, ↓nRng2, ↓k_nLc, ↓nCall, ↓nS, ↓nSeq, ↓nDrop, ↓nRet, ↓nIfS, ↓nAsg, ↓k_nPar, ↓k_nPar3, ↓k_nParN, ↓wCKw, ↓q_fMaxD, ↓ncomp_lift, ↓nCat, ↓nTimes, ↓k_nFlc, ↓asL2_l, ↓nForS, ↓k_nApp, ↓k_nAppPop, ↓k_nPut, ↓k_nOwn, ↓k_nRel, ↓k_nOpen, ↓nF, ↓nSl, ↓q_fI_1, ↓q_fI0_1, ↓q_fAdd_1, ↓q_fAdd_2, ↓q_fAdd_3, ↓q_fAdd_4, ↓q_fEq_1, ↓q_fNe_1, ↓q_fIn_1, ↓q_fIn_2, ↓q_fIx_1, ↓q_fIx_2, ↓q_fIx_3, ↓q_fIsN_1, ↓q_fU_1, ↓q_asB_1, ↓q_asI_1, ↓q_fSl_1, ↓q_fSl_2, ↓q_fSl_3, ↓q_fLen_1, ↓q_fLen_2, ↓q_fLen_3, ↓q_fLen_4, ↓q_fIsi_1, ↓q_itD_1, ↓q_itD_2, ↓q_itD_3, ↓q_asR1_1, ↓q_asR2_1, ↓q_wgCons_1, ↓q_wgCons_2, ↓q_wgTup_1, ↓q_as2_1, ↓q_as3_1, ↓q_fLstOf_1, ↓q_fLstOf_2, ↓q_fTupOf_1, ↓q_fTupOf_2, ↓q_asD_1, ↓q_fMul_1, ↓q_fMul_2, ↓q_fMul_3, ↓q_fInt_1, ↓q_fInt_2, ↓q_fRepr_1, ↓q_fMin_1, ↓q_fMin_2, ↓q_fAll_1, ↓q_asSeq_1, ↓q_asSeq_2, ↓q_asL_1, ↓q_fNil_1, ↓q_fNil_2, ↓q_fEqS_1, ↓q_fNeS_1, ↓q_asTu_1, ↓q_fSort_1, ↓q_fSort_2, ↓q_fAny_1, ↓q_fMax_1, ↓q_fMax_2, ↓q_fSum_1, ↓q_fStr_1, ↓q_asS_1, ↓q_asS1_1, ↓k_ext, ↓q_exL, ↓q_fMulS, ↓q_fMulT, ↓q_fSortT, ↓fNinT, ↓q_fStr2_1, ↓q_fStr2_2, List.map_cons, List.map_nil, List.length_cons, List.length_nil, List.cons_append, List.nil_append, List.replicate_succ, List.replicate_zero, Option.map_some, Option.map_none, ite_true, ite_false, if_true, if_false, Nat.reduceAdd, Nat.reduceSub, Nat.reduceLeDiff, Bool.false_eq_true, Bool.not_true, Bool.not_false, Bool.true_and, Bool.and_true, Bool.false_and, Bool.and_false, true_and, and_true, Bool.bne_true, Bool.bne_false, Bool.false_bne, Bool.true_bne, bne_self_eq_false]
      exact ⟨m, rfl, by omega, by omega, fun n' qs hn' hqs => hk _ _ hn' ⟨qs, hqs, rfl⟩⟩
    · rw [rgD_len] at hq hl2
      obtain ⟨ps, rfl, hps⟩ := prefs_d hys
      refine ⟨rfl, rfl, rfl, rfl, ?_⟩
      rw [if_neg (by decide)]
      exact good q ps (by omega) (by simpa using hl2) hps
  · refine ⟨rfl, rfl, ?_⟩
    simp only [d0, Int.reduceBEq, ↓wSeq, ↓wNext, ↓wIfS, ↓wRet, ↓wRetN, ↓wAsg, ↓wDrop, ↓wOp, ↓wUn, ↓wC, ↓wTy, ↓wRef, ↓wB, ↓wAnd, ↓wOr, ↓wNot, ↓wYes, ↓wAndV, ↓wOrV, ↓wNotV, ↓wIf, ↓wChain, ↓wNil, ↓wCons, ↓wTup, ↓wLst, ↓wNoPart, ↓wPart, ↓wSl, ↓wCB, ↓wIt, ↓wRng1, ↓wRng2, ↓wCall, ↓wCallB, ↓wfLst, ↓wfLstOf, ↓wOfF, ↓wForS, ↓wIxm, ↓wRev, ↓wDnew, ↓wRg1, ↓wRg2, ↓wTupRg, ↓wfLstRg, ↓wSeqX, ↓wIfX, ↓wDropX, ↓wRetX, ↓wAsgX, ↓wForX, ↓wCallX, ↓wCallXS, ↓wCall0, ↓wCallS0, ↓wRz1, ↓wRz0, ↓wIfXE, ↓wDispI, ↓wCnt, ↓wXf, ↓wClsT, ↓wgNil, ↓asDs_nil, ↓asDs_cons, ↓asDs_map, ↓asIs_ints, ↓k_var, ↓k_varB, ↓getK_s, ↓getK_d, ↓getK_o, ↓getK_t, ↓getK_r, ↓getB_s, ↓getB_d, ↓getB_o, ↓getB_t, ↓getB_r, ↓getB_w, ↓getO_s, ↓getO_w, ↓setK_s, ↓setK_0, ↓wipeK_n, ↓wipeK_c, ↓k_name, ↓k_lc, ↓k_aug, ↓k_own, ↓k_app, ↓k_rel, ↓k_relX, ↓k_par, ↓k_par3, ↓k_par01, ↓k_par11, ↓k_put, ↓k_appPop, ↓k_try, ↓k_rem, ↓k_lcW, ↓wForW, ↓wForWX, ↓wEnum, ↓rowsD, ↓wStar, ↓wLenSet, ↓wPick, ↓wRun, ↓ite_tt, ↓ite_ff, ↓getB_l, ↓getO2_s, ↓getO2_w, ↓dropK_n, ↓dropK_c, ↓dl1_n, ↓dl1_d, ↓dl1_o, ↓dl1_t, ↓dl1_r, ↓dl1_w, ↓dl1_w2, ↓dl1_l, ↓setAllK_c, ↓setAllK_n, ↓freeK_s, ↓freeK_n, ↓freeK_d, ↓k_ix2, ↓k_app2, ↓k_put2, ↓k_forO, ↓k_parN, ↓k_wpF, ↓k_wpF2, ↓wpE, ↓wfSl, ↓wf2Nil, ↓wGPlain, ↓wG0, ↓wGThen, ↓wGIf, ↓wGYield, ↓wGForS, ↓wLstG, ↓wEnumS, ↓wM1, ↓fCntS, ↓fJoin, ↓fSplit, ↓wRevS, ↓asTs_map, ↓k_tryE, ↓wOpX, ↓asDs_app, ↓fIntS, ↓fInT, ↓wFld, ↓wPropQ, ↓wPropX, ↓wInQ, ↓wIxQ, ↓wMake, ↓wMake0, ↓wEqQ, ↓k_callIQ, ↓wRevT, ↓nE, ↓nT, ↓nA, ↓nI, ↓nOp, ↓nUn, ↓nCons, ↓nTup, ↓nLst, ↓nCB, ↓nB, ↓nAnd, ↓nOr, ↓nNot, ↓nIf, ↓nO, ↓nPart, ↓nIt, ↓nRng1, ↓nRng2, ↓k_nLc, ↓nCall, ↓nS, ↓nSeq, ↓nDrop, ↓nRet, ↓nIfS, ↓nAsg, ↓k_nPar, ↓k_nPar3, ↓k_nParN, ↓wCKw, ↓q_fMaxD, ↓ncomp_lift, ↓nCat, ↓nTimes, ↓k_nFlc, ↓asL2_l, ↓nForS, ↓k_nApp, ↓k_nAppPop, ↓k_nPut, ↓k_nOwn, ↓k_nRel, ↓k_nOpen, ↓nF, ↓nSl, ↓q_fI_1, ↓q_fI0_1, ↓q_fAdd_1, ↓q_fAdd_2, ↓q_fAdd_3, ↓q_fAdd_4, ↓q_fEq_1, ↓q_fNe_1, ↓q_fIn_1, ↓q_fIn_2, ↓q_fIx_1, ↓q_fIx_2, ↓q_fIx_3, ↓q_fIsN_1, ↓q_fU_1, ↓q_asB_1, ↓q_asI_1, ↓q_fSl_1, ↓q_fSl_2, ↓q_fSl_3, ↓q_fLen_1, ↓q_fLen_2, ↓q_fLen_3, ↓q_fLen_4, ↓q_fIsi_1, ↓q_itD_1, ↓q_itD_2, ↓q_itD_3, ↓q_asR1_1, ↓q_asR2_1, ↓q_wgCons_1, ↓q_wgCons_2, ↓q_wgTup_1, ↓q_as2_1, ↓q_as3_1, ↓q_fLstOf_1, ↓q_fLstOf_2, ↓q_fTupOf_1, ↓q_fTupOf_2, ↓q_asD_1, ↓q_fMul_1, ↓q_fMul_2, ↓q_fMul_3, ↓q_fInt_1, ↓q_fInt_2, ↓q_fRepr_1, ↓q_fMin_1, ↓q_fMin_2, ↓q_fAll_1, ↓q_asSeq_1, ↓q_asSeq_2, ↓q_asL_1, ↓q_fNil_1, ↓q_fNil_2, ↓q_fEqS_1, ↓q_fNeS_1, ↓q_asTu_1, ↓q_fSort_1, ↓q_fSort_2, ↓q_fAny_1, ↓q_fMax_1, ↓q_fMax_2, ↓q_fSum_1, ↓q_fStr_1, ↓q_asS_1, ↓q_asS1_1, ↓k_ext, ↓q_exL, ↓q_fMulS, ↓q_fMulT, ↓q_fSortT, ↓fNinT, ↓q_fStr2_1, ↓q_fStr2_2, List.map_cons, List.map_nil, List.length_cons, List.length_nil, List.cons_append, List.nil_append, List.replicate_succ, List.replicate_zero, Option.map_some, Option.map_none, ite_true, ite_false, if_true, if_false, Nat.reduceAdd, Nat.reduceSub, Nat.reduceLeDiff, Bool.false_eq_true, Bool.not_true, Bool.not_false, Bool.true_and, Bool.and_true, Bool.false_and, Bool.and_false, true_and, and_true, Bool.bne_true, Bool.bne_false, Bool.false_bne, Bool.true_bne, bne_self_eq_false]
    refine ⟨rfl, rfl, by omega, by omega, by simp [upto_len]; omega, ?_⟩
    refine comp_im (fun q => prefD (rgI (q + 1) m ++ rgI 0 (q + 1))) (fun q hq K hk => ?_) ?_
    · have hq := mem_upto.mp hq
      simp only [wStep, ↓wSeq, ↓wNext, ↓wIfS, ↓wRet, ↓wRetN, ↓wAsg, ↓wDrop, ↓wOp, ↓wUn, ↓wC, ↓wTy, ↓wRef, ↓wB, ↓wAnd, ↓wOr, ↓wNot, ↓wYes, ↓wAndV, ↓wOrV, ↓wNotV, ↓wIf, ↓wChain, ↓wNil, ↓wCons, ↓wTup, ↓wLst, ↓wNoPart, ↓wPart, ↓wSl, ↓wCB, ↓wIt, ↓wRng1, ↓wRng2, ↓wCall, ↓wCallB, ↓wfLst, ↓wfLstOf, ↓wOfF, ↓wForS, ↓wIxm, ↓wRev, ↓wDnew, ↓wRg1, ↓wRg2, ↓wTupRg, ↓wfLstRg, ↓wSeqX, ↓wIfX, ↓wDropX, ↓wRetX, ↓wAsgX, ↓wForX, ↓wCallX, ↓wCallXS, ↓wCall0, ↓wCallS0, ↓wRz1, ↓wRz0, ↓wIfXE, ↓wDispI, ↓wCnt, ↓wXf, ↓wClsT, ↓wgNil, ↓asDs_nil, ↓asDs_cons, ↓asDs_map, ↓asIs_ints, ↓k_var, ↓k_varB, ↓getK_s, ↓getK_d, ↓getK_o, ↓getK_t, ↓getK_r, ↓getB_s, ↓getB_d, ↓getB_o, ↓getB_t, ↓getB_r, ↓getB_w, ↓getO_s, ↓getO_w, ↓setK_s, ↓setK_0, ↓wipeK_n, ↓wipeK_c, ↓k_name, ↓k_lc, ↓k_aug, ↓k_own, ↓k_app, ↓k_rel, ↓k_relX, ↓k_par, ↓k_par3, ↓k_par01, ↓k_par11, ↓k_put, ↓k_appPop, ↓k_try, ↓k_rem, ↓k_lcW, ↓wForW, ↓wForWX, ↓wEnum, ↓rowsD, ↓wStar, ↓wLenSet, ↓wPick, ↓wRun, ↓ite_tt, ↓ite_ff, ↓getB_l, ↓getO2_s, ↓getO2_w, ↓dropK_n, ↓dropK_c, ↓dl1_n, ↓dl1_d, ↓dl1_o, ↓dl1_t, ↓dl1_r, ↓dl1_w, ↓dl1_w2, ↓dl1_l, ↓setAllK_c, ↓setAllK_n, ↓freeK_s, ↓freeK_n, ↓freeK_d, ↓k_ix2, ↓k_app2, ↓k_put2, ↓k_forO, ↓k_parN, ↓k_wpF, ↓k_wpF2, ↓wpE, ↓wfSl, ↓wf2Nil, ↓wGPlain, ↓wG0, ↓wGThen, ↓wGIf, ↓wGYield, ↓wGForS, ↓wLstG, ↓wEnumS, ↓wM1, ↓fCntS, ↓fJoin, ↓fSplit, ↓wRevS, ↓asTs_map, ↓k_tryE, ↓wOpX, ↓asDs_app, ↓fIntS, ↓fInT, ↓wFld, ↓wPropQ, ↓wPropX, ↓wInQ, ↓wIxQ, ↓wMake, ↓wMake0, ↓wEqQ, ↓k_callIQ, ↓wRevT, ↓nE, ↓nT, ↓nA, ↓nI, ↓nOp, ↓nUn, ↓nCons, ↓nTup, ↓nLst, ↓nCB, ↓nB, ↓nAnd, ↓nOr, ↓nNot, ↓nIf, ↓nO, ↓nPart, ↓nIt, ↓nRng1, ↓nRng2, ↓k_nLc, ↓nCall, ↓nS, ↓nSeq, ↓nDrop, ↓nRet, ↓nIfS, ↓nAsg, ↓k_nPar, ↓k_nPar3, ↓k_nParN, ↓wCKw, ↓q_fMaxD, ↓ncomp_lift, ↓nCat, ↓nTimes, ↓k_nFlc, ↓asL2_l, ↓nForS, ↓k_nApp, ↓k_nAppPop, ↓k_nPut, ↓k_nOwn, ↓k_nRel, ↓k_nOpen, ↓nF, ↓nSl, ↓q_fI_1, ↓q_fI0_1, ↓q_fAdd_1, ↓q_fAdd_2, ↓q_fAdd_3, ↓q_fAdd_4, ↓q_fEq_1, ↓q_fNe_1, ↓q_fIn_1, ↓q_fIn_2, ↓q_fIx_1, ↓q_fIx_2, ↓q_fIx_3, ↓q_fIsN_1, ↓q_fU_1, ↓q_asB_1, ↓q_asI_1, ↓q_fSl_1, ↓q_fSl_2, ↓q_fSl_3, ↓q_fLen_1, ↓q_fLen_2, ↓q_fLen_3, ↓q_fLen_4, ↓q_fIsi_1, ↓q_itD_1, ↓q_itD_2, ↓q_itD_3, ↓q_asR1_1, ↓q_asR2_1, ↓q_wgCons_1, ↓q_wgCons_2, ↓q_wgTup_1, ↓q_as2_1, ↓q_as3_1, ↓q_fLstOf_1, ↓q_fLstOf_2, ↓q_fTupOf_1, ↓q_fTupOf_2, ↓q_asD_1, ↓q_fMul_1, ↓q_fMul_2, ↓q_fMul_3, ↓q_fInt_1, ↓q_fInt_2, ↓q_fRepr_1, ↓q_fMin_1, ↓q_fMin_2, ↓q_fAll_1, ↓q_asSeq_1, ↓q_asSeq_2, ↓q_asL_1, ↓q_fNil_1, ↓q_fNil_2, ↓q_fEqS_1, ↓q_fNeS_1, ↓q_asTu_1, ↓q_fSort_1, ↓q_fSort_2, ↓q_fAny_1, ↓q_fMax_1, ↓q_fMax_2, ↓q_fSum_1, ↓q_fStr_1, ↓q_asS_1, ↓q_asS1_1, ↓k_ext, ↓q_exL, ↓q_fMulS, ↓q_fMulT, ↓q_fSortT, ↓fNinT, ↓q_fStr2_1, ↓q_fStr2_2, List.map_cons, List.map_nil, List.length_cons, List.length_nil, List.cons_append, List.nil_append, List.replicate_succ, List.replicate_zero, Option.map_some, Option.map_none, ite_true, ite_false, if_true, if_false, Nat.reduceAdd, Nat.reduceSub, Nat.reduceLeDiff, Bool.false_eq_true, Bool.not_true, Bool.not_false, Bool.true_and, Bool.and_true, Bool.false_and, Bool.and_false, true_and, and_true, Bool.bne_true, Bool.bne_false, Bool.false_bne, Bool.true_bne, bne_self_eq_false]
      have l1 : (rgI (q + 1) m).length ≤ 6 := by unfold rgI; simp; omega
      have l2 : (rgI 0 (q + 1)).length ≤ 6 := by unfold rgI; simp; omega
      refine ⟨⟨by omega, by omega, by omega, by omega⟩, ⟨by omega, by omega, by omega, by omega⟩, by rw [List.length_map, List.length_map]; omega, ?_⟩
      rw [← List.map_append]
      exact hk
    · have e : PyData.tuple (ns.map PyData.int) :: (upto m).map (fun q => prefD (rgI (q + 1) m ++ rgI 0 (q + 1))) = (ns :: (upto m).map fun q => rgI (q + 1) m ++ rgI 0 (q + 1)).map prefD := by
        rw [List.map_cons, List.map_map]; rfl
      refine ⟨by simp [upto_len]; omega, rfl, rfl, ?_⟩
      rw [if_neg (by decide), e]
      refine good _ _ (by omega) (by simp [upto_len]) fun p hp2 => ?_
      rcases List.mem_cons.mp hp2 with rfl | hp2
      · exact hp
      · obtain ⟨q, hq, rfl⟩ := List.mem_map.mp hp2
        have hq := mem_upto.mp hq
        exact List.perm_append_comm.trans (by rw [rgI_app (by omega) (by omega)])
  · refine ⟨rfl, rfl, ?_⟩
    simp only [d0, Int.reduceBEq, ↓wSeq, ↓wNext, ↓wIfS, ↓wRet, ↓wRetN, ↓wAsg, ↓wDrop, ↓wOp, ↓wUn, ↓wC, ↓wTy, ↓wRef, ↓wB, ↓wAnd, ↓wOr, ↓wNot, ↓wYes, ↓wAndV, ↓wOrV, ↓wNotV, ↓wIf, ↓wChain, ↓wNil, ↓wCons, ↓wTup, ↓wLst, ↓wNoPart, ↓wPart, ↓wSl, ↓wCB, ↓wIt, ↓wRng1, ↓wRng2, ↓wCall, ↓wCallB, ↓wfLst, ↓wfLstOf, ↓wOfF, ↓wForS, ↓wIxm, ↓wRev, ↓wDnew, ↓wRg1, ↓wRg2, ↓wTupRg, ↓wfLstRg, ↓wSeqX, ↓wIfX, ↓wDropX, ↓wRetX, ↓wAsgX, ↓wForX, ↓wCallX, ↓wCallXS, ↓wCall0, ↓wCallS0, ↓wRz1, ↓wRz0, ↓wIfXE, ↓wDispI, ↓wCnt, ↓wXf, ↓wClsT, ↓wgNil, ↓asDs_nil, ↓asDs_cons, ↓asDs_map, ↓asIs_ints, ↓k_var, ↓k_varB, ↓getK_s, ↓getK_d, ↓getK_o, ↓getK_t, ↓getK_r, ↓getB_s, ↓getB_d, ↓getB_o, ↓getB_t, ↓getB_r, ↓getB_w, ↓getO_s, ↓getO_w, ↓setK_s, ↓setK_0, ↓wipeK_n, ↓wipeK_c, ↓k_name, ↓k_lc, ↓k_aug, ↓k_own, ↓k_app, ↓k_rel, ↓k_relX, ↓k_par, ↓k_par3, ↓k_par01, ↓k_par11, ↓k_put, ↓k_appPop, ↓k_try, ↓k_rem, ↓k_lcW, ↓wForW, ↓wForWX, ↓wEnum, ↓rowsD, ↓wStar, ↓wLenSet, ↓wPick, ↓wRun, ↓ite_tt, ↓ite_ff, ↓getB_l, ↓getO2_s, ↓getO2_w, ↓dropK_n, ↓dropK_c, ↓dl1_n, ↓dl1_d, ↓dl1_o, ↓dl1_t, ↓dl1_r, ↓dl1_w, ↓dl1_w2, ↓dl1_l, ↓setAllK_c, ↓setAllK_n, ↓freeK_s, ↓freeK_n, ↓freeK_d, ↓k_ix2, ↓k_app2, ↓k_put2, ↓k_forO, ↓k_parN, ↓k_wpF, ↓k_wpF2, ↓wpE, ↓wfSl, ↓wf2Nil, ↓wGPlain, ↓wG0, ↓wGThen, ↓wGIf, ↓wGYield, ↓wGForS, ↓wLstG, ↓wEnumS, ↓wM1, ↓fCntS, ↓fJoin, ↓fSplit, ↓wRevS, ↓asTs_map, ↓k_tryE, ↓wOpX, ↓asDs_app, ↓fIntS, ↓fInT, ↓wFld, ↓wPropQ, ↓wPropX, ↓wInQ, ↓wIxQ, ↓wMake, ↓wMake0, ↓wEqQ, ↓k_callIQ, ↓wRevT, ↓nE, ↓nT, ↓nA, ↓nI, ↓nOp, ↓nUn, ↓nCons, ↓nTup, ↓nLst, ↓nCB, ↓nB, ↓nAnd, ↓nOr, ↓nNot, ↓nIf, ↓nO, ↓nPart, ↓nIt, ↓nRng1, ↓nRng2, ↓k_nLc, ↓nCall, ↓nS, ↓nSeq, ↓nDrop, ↓nRet, ↓nIfS, ↓nAsg, ↓k_nPar, ↓k_nPar3, ↓k_nParN, ↓wCKw, ↓q_fMaxD, ↓ncomp_lift, ↓nCat, ↓nTimes, ↓k_nFlc, ↓asL2_l, ↓nForS, ↓k_nApp, ↓k_nAppPop, ↓k_nPut, ↓k_nOwn, ↓k_nRel, ↓k_nOpen, ↓nF, ↓nSl, ↓q_fI_1, ↓q_fI0_1, ↓q_fAdd_1, ↓q_fAdd_2, ↓q_fAdd_3, ↓q_fAdd_4, ↓q_fEq_1, ↓q_fNe_1, ↓q_fIn_1, ↓q_fIn_2, ↓q_fIx_1, ↓q_fIx_2, ↓q_fIx_3, ↓q_fIsN_1, ↓q_fU_1, ↓q_asB_1, ↓q_asI_1, ↓q_fSl_1, ↓q_fSl_2, ↓q_fSl_3, ↓q_fLen_1, ↓q_fLen_2, ↓q_fLen_3, ↓q_fLen_4, ↓q_fIsi_1, ↓q_itD_1, ↓q_itD_2, ↓q_itD_3, ↓q_asR1_1, ↓q_asR2_1, ↓q_wgCons_1, ↓q_wgCons_2, ↓q_wgTup_1, ↓q_as2_1, ↓q_as3_1, ↓q_fLstOf_1, ↓q_fLstOf_2, ↓q_fTupOf_1, ↓q_fTupOf_2, ↓q_asD_1, ↓q_fMul_1, ↓q_fMul_2, ↓q_fMul_3, ↓q_fInt_1, ↓q_fInt_2, ↓q_fRepr_1, ↓q_fMin_1, ↓q_fMin_2, ↓q_fAll_1, ↓q_asSeq_1, ↓q_asSeq_2, ↓q_asL_1, ↓q_fNil_1, ↓q_fNil_2, ↓q_fEqS_1, ↓q_fNeS_1, ↓q_asTu_1, ↓q_fSort_1, ↓q_fSort_2, ↓q_fAny_1, ↓q_fMax_1, ↓q_fMax_2, ↓q_fSum_1, ↓q_fStr_1, ↓q_asS_1, ↓q_asS1_1, ↓k_ext, ↓q_exL, ↓q_fMulS, ↓q_fMulT, ↓q_fSortT, ↓fNinT, ↓q_fStr2_1, ↓q_fStr2_2, List.map_cons, List.map_nil, List.length_cons, List.length_nil, List.cons_append, List.nil_append, List.replicate_succ, List.replicate_zero, Option.map_some, Option.map_none, ite_true, ite_false, if_true, if_false, Nat.reduceAdd, Nat.reduceSub, Nat.reduceLeDiff, Bool.false_eq_true, Bool.not_true, Bool.not_false, Bool.true_and, Bool.and_true, Bool.false_and, Bool.and_false, true_and, and_true, Bool.bne_true, Bool.bne_false, Bool.false_bne, Bool.true_bne, bne_self_eq_false]
    refine ⟨rfl, rfl, rfl, rfl, by omega, by omega, by omega, ?_⟩
    rw [if_neg (by decide)]
    have e : (List.replicate (m + 1) [PyData.tuple (ns.map PyData.int)]).flatten = (List.replicate (m + 1) ns).map prefD := by
      simp [List.flatten_replicate_singleton, prefD]
    have g := good n2 (List.replicate (m + 1) ns) (by omega) (by simp) fun p h => by rw [(List.mem_replicate.mp h).2]; exact hp
    rw [← e] at g
    exact g
  · refine ⟨rfl, rfl, ?_⟩
    simp only [d0, Int.reduceBEq, ↓wSeq, ↓wNext, ↓wIfS, ↓wRet, ↓wRetN, ↓wAsg, ↓wDrop, ↓wOp, ↓wUn, ↓wC, ↓wTy, ↓wRef, ↓wB, ↓wAnd, ↓wOr, ↓wNot, ↓wYes, ↓wAndV, ↓wOrV, ↓wNotV, ↓wIf, ↓wChain, ↓wNil, ↓wCons, ↓wTup, ↓wLst, ↓wNoPart, ↓wPart, ↓wSl, ↓wCB, ↓wIt, ↓wRng1, ↓wRng2, ↓wCall, ↓wCallB, ↓wfLst, ↓wfLstOf, ↓wOfF, ↓wForS, ↓wIxm, ↓wRev, ↓wDnew, ↓wRg1, ↓wRg2, ↓wTupRg, ↓wfLstRg, ↓wSeqX, ↓wIfX, ↓wDropX, ↓wRetX, ↓wAsgX, ↓wForX, ↓wCallX, ↓wCallXS, ↓wCall0, ↓wCallS0, ↓wRz1, ↓wRz0, ↓wIfXE, ↓wDispI, ↓wCnt, ↓wXf, ↓wClsT, ↓wgNil, ↓asDs_nil, ↓asDs_cons, ↓asDs_map, ↓asIs_ints, ↓k_var, ↓k_varB, ↓getK_s, ↓getK_d, ↓getK_o, ↓getK_t, ↓getK_r, ↓getB_s, ↓getB_d, ↓getB_o, ↓getB_t, ↓getB_r, ↓getB_w, ↓getO_s, ↓getO_w, ↓setK_s, ↓setK_0, ↓wipeK_n, ↓wipeK_c, ↓k_name, ↓k_lc, ↓k_aug, ↓k_own, ↓k_app, ↓k_rel, ↓k_relX, ↓k_par, ↓k_par3, ↓k_par01, ↓k_par11, ↓k_put, ↓k_appPop, ↓k_try, ↓k_rem, ↓k_lcW, ↓wForW, ↓wForWX, ↓wEnum, ↓rowsD, ↓wStar, ↓wLenSet, ↓wPick, ↓wRun, ↓ite_tt, ↓ite_ff, ↓getB_l, ↓getO2_s, ↓getO2_w, ↓dropK_n, ↓dropK_c, ↓dl1_n, ↓dl1_d, ↓dl1_o, ↓dl1_t, ↓dl1_r, ↓dl1_w, ↓dl1_w2, ↓dl1_l, ↓setAllK_c, ↓setAllK_n, ↓freeK_s, ↓freeK_n, ↓freeK_d, ↓k_ix2, ↓k_app2, ↓k_put2, ↓k_forO, ↓k_parN, ↓k_wpF, ↓k_wpF2, ↓wpE, ↓wfSl, ↓wf2Nil, ↓wGPlain, ↓wG0, ↓wGThen, ↓wGIf, ↓wGYield, ↓wGForS, ↓wLstG, ↓wEnumS, ↓wM1, ↓fCntS, ↓fJoin, ↓fSplit, ↓wRevS, ↓asTs_map, ↓k_tryE, ↓wOpX, ↓asDs_app, ↓fIntS, ↓fInT, ↓wFld, ↓wPropQ, ↓wPropX, ↓wInQ, ↓wIxQ, ↓wMake, ↓wMake0, ↓wEqQ, ↓k_callIQ, ↓wRevT, ↓nE, ↓nT, ↓nA, ↓nI, ↓nOp, ↓nUn, ↓nCons, ↓nTup, ↓nLst, ↓nCB, ↓nB, ↓nAnd, ↓nOr, ↓nNot, ↓nIf, ↓nO, ↓nPart, ↓nIt, ↓nRng1, ↓nRng2, ↓k_nLc, ↓nCall, ↓nS, ↓nSeq, ↓nDrop, ↓nRet, ↓nIfS, ↓nAsg, ↓k_nPar, ↓k_nPar3, ↓k_nParN, ↓wCKw, ↓q_fMaxD, ↓ncomp_lift, ↓nCat, ↓nTimes, ↓k_nFlc, ↓asL2_l, ↓nForS, ↓k_nApp, ↓k_nAppPop, ↓k_nPut, ↓k_nOwn, ↓k_nRel, ↓k_nOpen, ↓nF, ↓nSl, ↓q_fI_1, ↓q_fI0_1, ↓q_fAdd_1, ↓q_fAdd_2, ↓q_fAdd_3, ↓q_fAdd_4, ↓q_fEq_1, ↓q_fNe_1, ↓q_fIn_1, ↓q_fIn_2, ↓q_fIx_1, ↓q_fIx_2, ↓q_fIx_3, ↓q_fIsN_1, ↓q_fU_1, ↓q_asB_1, ↓q_asI_1, ↓q_fSl_1, ↓q_fSl_2, ↓q_fSl_3, ↓q_fLen_1, ↓q_fLen_2, ↓q_fLen_3, ↓q_fLen_4, ↓q_fIsi_1, ↓q_itD_1, ↓q_itD_2, ↓q_itD_3, ↓q_asR1_1, ↓q_asR2_1, ↓q_wgCons_1, ↓q_wgCons_2, ↓q_wgTup_1, ↓q_as2_1, ↓q_as3_1, ↓q_fLstOf_1, ↓q_fLstOf_2, ↓q_fTupOf_1, ↓q_fTupOf_2, ↓q_asD_1, ↓q_fMul_1, ↓q_fMul_2, ↓q_fMul_3, ↓q_fInt_1, ↓q_fInt_2, ↓q_fRepr_1, ↓q_fMin_1, ↓q_fMin_2, ↓q_fAll_1, ↓q_asSeq_1, ↓q_asSeq_2, ↓q_asL_1, ↓q_fNil_1, ↓q_fNil_2, ↓q_fEqS_1, ↓q_fNeS_1, ↓q_asTu_1, ↓q_fSort_1, ↓q_fSort_2, ↓q_fAny_1, ↓q_fMax_1, ↓q_fMax_2, ↓q_fSum_1, ↓q_fStr_1, ↓q_asS_1, ↓q_asS1_1, ↓k_ext, ↓q_exL, ↓q_fMulS, ↓q_fMulT, ↓q_fSortT, ↓fNinT, ↓q_fStr2_1, ↓q_fStr2_2, List.map_cons, List.map_nil, List.length_cons, List.length_nil, List.cons_append, List.nil_append, List.replicate_succ, List.replicate_zero, Option.map_some, Option.map_none, ite_true, ite_false, if_true, if_false, Nat.reduceAdd, Nat.reduceSub, Nat.reduceLeDiff, Bool.false_eq_true, Bool.not_true, Bool.not_false, Bool.true_and, Bool.and_true, Bool.false_and, Bool.and_false, true_and, and_true, Bool.bne_true, Bool.bne_false, Bool.false_bne, Bool.true_bne, bne_self_eq_false]
    refine ⟨rfl, rfl, rfl, rfl, ?_⟩
    rw [if_pos (by decide)]
    refine ⟨m, rfl, by omega, by omega, fun n3 qs hn3 hqs => ?_⟩
    open_z
    refine ⟨_, rfl, by omega, by omega, by omega, fun j j0 j1 => ?_⟩
    open_z
    refine ⟨j.toNat, ?_, ?_⟩
    · unfold L2.ixN
      rw [if_pos j0, if_pos (by rw [List.length_map, upto_len]; omega)]
    · have e : (pol.map prefD).set j.toNat (.tuple (qs.map PyData.int)) = (pol.set j.toNat qs).map prefD := by rw [List.map_set]; rfl
      rw [e]
      refine good _ _ (by omega) (by rw [List.length_set]; exact lpol) fun p hp2 => ?_
      rcases List.mem_or_eq_of_mem_set hp2 with h | rfl
      · exact hpol p h
      · exact hqs
  · refine ⟨rfl, rfl, ?_⟩
    simp only [d0, Int.reduceBEq, ↓wSeq, ↓wNext, ↓wIfS, ↓wRet, ↓wRetN, ↓wAsg, ↓wDrop, ↓wOp, ↓wUn, ↓wC, ↓wTy, ↓wRef, ↓wB, ↓wAnd, ↓wOr, ↓wNot, ↓wYes, ↓wAndV, ↓wOrV, ↓wNotV, ↓wIf, ↓wChain, ↓wNil, ↓wCons, ↓wTup, ↓wLst, ↓wNoPart, ↓wPart, ↓wSl, ↓wCB, ↓wIt, ↓wRng1, ↓wRng2, ↓wCall, ↓wCallB, ↓wfLst, ↓wfLstOf, ↓wOfF, ↓wForS, ↓wIxm, ↓wRev, ↓wDnew, ↓wRg1, ↓wRg2, ↓wTupRg, ↓wfLstRg, ↓wSeqX, ↓wIfX, ↓wDropX, ↓wRetX, ↓wAsgX, ↓wForX, ↓wCallX, ↓wCallXS, ↓wCall0, ↓wCallS0, ↓wRz1, ↓wRz0, ↓wIfXE, ↓wDispI, ↓wCnt, ↓wXf, ↓wClsT, ↓wgNil, ↓asDs_nil, ↓asDs_cons, ↓asDs_map, ↓asIs_ints, ↓k_var, ↓k_varB, ↓getK_s, ↓getK_d, ↓getK_o, ↓getK_t, ↓getK_r, ↓getB_s, ↓getB_d, ↓getB_o, ↓getB_t, ↓getB_r, ↓getB_w, ↓getO_s, ↓getO_w, ↓setK_s, ↓setK_0, ↓wipeK_n, ↓wipeK_c, ↓k_name, ↓k_lc, ↓k_aug, ↓k_own, ↓k_app, ↓k_rel, ↓k_relX, ↓k_par, ↓k_par3, ↓k_par01, ↓k_par11, ↓k_put, ↓k_appPop, ↓k_try, ↓k_rem, ↓k_lcW, ↓wForW, ↓wForWX, ↓wEnum, ↓rowsD, ↓wStar, ↓wLenSet, ↓wPick, ↓wRun, ↓ite_tt, ↓ite_ff, ↓getB_l, ↓getO2_s, ↓getO2_w, ↓dropK_n, ↓dropK_c, ↓dl1_n, ↓dl1_d, ↓dl1_o, ↓dl1_t, ↓dl1_r, ↓dl1_w, ↓dl1_w2, ↓dl1_l, ↓setAllK_c, ↓setAllK_n, ↓freeK_s, ↓freeK_n, ↓freeK_d, ↓k_ix2, ↓k_app2, ↓k_put2, ↓k_forO, ↓k_parN, ↓k_wpF, ↓k_wpF2, ↓wpE, ↓wfSl, ↓wf2Nil, ↓wGPlain, ↓wG0, ↓wGThen, ↓wGIf, ↓wGYield, ↓wGForS, ↓wLstG, ↓wEnumS, ↓wM1, ↓fCntS, ↓fJoin, ↓fSplit, ↓wRevS, ↓asTs_map, ↓k_tryE, ↓wOpX, ↓asDs_app, ↓fIntS, ↓fInT, ↓wFld, ↓wPropQ, ↓wPropX, ↓wInQ, ↓wIxQ, ↓wMake, ↓wMake0, ↓wEqQ, ↓k_callIQ, ↓wRevT, ↓nE, ↓nT, ↓nA, ↓nI, ↓nOp, ↓nUn, ↓nCons, ↓nTup, ↓nLst, ↓nCB, ↓nB, ↓nAnd, ↓nOr, ↓nNot, ↓nIf, ↓nO, ↓nPart, ↓nIt, ↓nRng1, ↓nRng2, ↓k_nLc, ↓nCall, ↓nS, ↓nSeq, ↓nDrop, ↓nRet, ↓nIfS, ↓nAsg, ↓k_nPar, ↓k_nPar3, ↓k_nParN, ↓wCKw, ↓q_fMaxD, ↓ncomp_lift, ↓nCat, ↓nTimes, ↓k_nFlc, ↓asL2_l, ↓nForS, ↓k_nApp, ↓k_nAppPop, ↓k_nPut, ↓k_nOwn, ↓k_nRel, ↓k_nOpen, ↓nF, ↓nSl, ↓q_fI_1, ↓q_fI0_1, ↓q_fAdd_1, ↓q_fAdd_2, ↓q_fAdd_3, ↓q_fAdd_4, ↓q_fEq_1, ↓q_fNe_1, ↓q_fIn_1, ↓q_fIn_2, ↓q_fIx_1, ↓q_fIx_2, ↓q_fIx_3, ↓q_fIsN_1, ↓q_fU_1, ↓q_asB_1, ↓q_asI_1, ↓q_fSl_1, ↓q_fSl_2, ↓q_fSl_3, ↓q_fLen_1, ↓q_fLen_2, ↓q_fLen_3, ↓q_fLen_4, ↓q_fIsi_1, ↓q_itD_1, ↓q_itD_2, ↓q_itD_3, ↓q_asR1_1, ↓q_asR2_1, ↓q_wgCons_1, ↓q_wgCons_2, ↓q_wgTup_1, ↓q_as2_1, ↓q_as3_1, ↓q_fLstOf_1, ↓q_fLstOf_2, ↓q_fTupOf_1, ↓q_fTupOf_2, ↓q_asD_1, ↓q_fMul_1, ↓q_fMul_2, ↓q_fMul_3, ↓q_fInt_1, ↓q_fInt_2, ↓q_fRepr_1, ↓q_fMin_1, ↓q_fMin_2, ↓q_fAll_1, ↓q_asSeq_1, ↓q_asSeq_2, ↓q_asL_1, ↓q_fNil_1, ↓q_fNil_2, ↓q_fEqS_1, ↓q_fNeS_1, ↓q_asTu_1, ↓q_fSort_1, ↓q_fSort_2, ↓q_fAny_1, ↓q_fMax_1, ↓q_fMax_2, ↓q_fSum_1, ↓q_fStr_1, ↓q_asS_1, ↓q_asS1_1, ↓k_ext, ↓q_exL, ↓q_fMulS, ↓q_fMulT, ↓q_fSortT, ↓fNinT, ↓q_fStr2_1, ↓q_fStr2_2, List.map_cons, List.map_nil, List.length_cons, List.length_nil, List.cons_append, List.nil_append, List.replicate_succ, List.replicate_zero, Option.map_some, Option.map_none, ite_true, ite_false, if_true, if_false, Nat.reduceAdd, Nat.reduceSub, Nat.reduceLeDiff, Bool.false_eq_true, Bool.not_true, Bool.not_false, Bool.true_and, Bool.and_true, Bool.false_and, Bool.and_false, true_and, and_true, Bool.bne_true, Bool.bne_false, Bool.false_bne, Bool.true_bne, bne_self_eq_false]
    refine ⟨rfl, rfl, rfl, rfl, ?_⟩
    rw [if_pos (by decide)]
    refine ⟨m, rfl, by omega, by omega, fun n3 qs hn3 hqs => ?_⟩
    open_z
    refine ⟨_, rfl, by omega, by omega, by omega, fun j j0 j1 => ?_⟩
    open_z
    refine ⟨j.toNat, ?_, ?_⟩
    · unfold L2.ixN
      rw [if_pos j0, if_pos (by rw [List.length_map, upto_len]; omega)]
    · have e : (pol.map prefD).set j.toNat (.tuple (qs.map PyData.int)) = (pol.set j.toNat qs).map prefD := by rw [List.map_set]; rfl
      rw [e]
      refine good _ _ (by omega) (by rw [List.length_set]; exact lpol) fun p hp2 => ?_
      rcases List.mem_or_eq_of_mem_set hp2 with h | rfl
      · exact hpol p h
      · exact hqs
def oddN : List PyData := [.none, .bool true, .bool false, .int (-1), .int 0, .int 1, .int 2, .int 6, .int (10 ^ 39), .str "", .str "ring", .str "bound", .tuple [], .list [], .dict [], .tuple [.int 0], .list [.int 0], .tuple [.none], .tuple [.tuple []], .tuple [.str "ring", .tuple [.int 0]]]
def ROdd : RC := fun c n ss Pd => ss = [.ref c] ∧ n + 1 ≤ topN ∧ ∀ d ∈ oddN, Pd (n + 1) (.d d)
theorem q_odd {f : Addr} {fd : FuncData} (F : Fun K "_law_odd" "_law_odd" sDLawOdd f fd) (T : Blt mg) (c_law_weave : Cal P w K mg base 1 "_law_weave" ["_law_loom_here", "_law_many"] (spC (FLoom P w) 2 RWeave)) : FnOk P w K mg base CX0 2 f fd ["_law_loom_here"] (spC (FLoom P w) 1 ROdd) := by
  refine okC F scDLawOdd fun cdv A outer s H E hr => ⟨_, (pss_cons (ps_set (i := 1) scDLawOdd.nd rfl (Or.inl rfl) (pe_lst (pa_cons pe_non (pa_cons pe_bl (pa_cons pe_bl (pa_cons (pe_un un_neg pe_int) (pa_cons pe_int (pa_cons pe_int (pa_cons pe_int (pa_cons pe_int (pa_cons (pe_op op_pow pe_int pe_int) (pa_cons pe_str (pa_cons pe_str (pa_cons pe_str (pa_cons (pe_tupF pa_nil) (pa_cons (pe_lst pa_nil) (pa_cons pe_dnewK (pa_cons (pe_tupF (pa_cons pe_int pa_nil)) (pa_cons (pe_lst (pa_cons pe_int pa_nil)) pa_nil)))))))))))))))))))
    (pss_one (ps_ret (pe_ix (kx_X (K := K) rfl) (pe_op (ko_add (K := K) rfl) (pv 1) (pe_lst (pa_cons (pe_tupF (pa_cons pe_non pa_nil)) (pa_cons (pe_tupF (pa_cons (pe_tupF pa_nil) pa_nil)) (pa_cons (pe_tupF (pa_cons pe_str (pa_cons (pe_tupF (pa_cons pe_int pa_nil)) pa_nil))) pa_nil))))) (pe_cal c_law_weave (hr.mono (by decide)) rfl (pa_cons (pv 0) (pa_cons pe_int pa_nil))) (fun _ _ => rfl))))), fun D _ => ⟨_, inferInstance, fun n ss Pd hl hR => ?_⟩⟩
  obtain ⟨rfl, hn, k⟩ := hR
  simp only [List.map_cons, List.map_nil, List.length_cons, List.length_nil, List.cons_append, List.nil_append, List.replicate_succ, List.replicate_zero, Nat.reduceAdd, Nat.reduceSub]; open_z
  refine ⟨⟨by decide, by decide, by decide⟩, _, rfl, by decide, by decide, by omega, fun r r0 r1 => ?_⟩
  obtain ⟨d, hm, ha, _⟩ := at_in (xs := oddN) r0 (show r < (oddN.length : Int) from r1)
  exact ⟨d, ha, k d hm⟩
end
end Lr


namespace Lr
open PySem L2
abbrev sDIsNumber : Stmt := topS 10
abbrev nDIsNumber : List Str := ["value"]
theorem scDIsNumber : FnScope nDIsNumber ["value"] (defScope sDIsNumber) :=
  ⟨rfl, rfl, rfl, by decide +kernel, rfl, by decide +kernel, by decide +kernel⟩
abbrev sDIsWithin : Stmt := topS 11
abbrev nDIsWithin : List Str := ["value", "low", "high"]
theorem scDIsWithin : FnScope nDIsWithin ["value", "low", "high"] (defScope sDIsWithin) :=
  ⟨rfl, rfl, rfl, by decide +kernel, rfl, by decide +kernel, by decide +kernel⟩



abbrev sDIsLane : Stmt := topS 13
abbrev nDIsLane : List Str := ["rule", "value"]
theorem scDIsLane : FnScope nDIsLane ["rule", "value"] (defScope sDIsLane) :=
  ⟨rfl, rfl, rfl, by decide +kernel, rfl, by decide +kernel, by decide +kernel⟩
abbrev sDCheckLane : Stmt := topS 14
abbrev nDCheckLane : List Str := ["rule", "value"]
theorem scDCheckLane : FnScope nDCheckLane ["rule", "value"] (defScope sDCheckLane) :=
  ⟨rfl, rfl, rfl, by decide +kernel, rfl, by decide +kernel, by decide +kernel⟩
abbrev sDPreferenceAfter : Stmt := topS 15
abbrev nDPreferenceAfter : List Str := ["rule", "last"]
theorem scDPreferenceAfter : FnScope nDPreferenceAfter ["rule", "last"] (defScope sDPreferenceAfter) :=
  ⟨rfl, rfl, rfl, by decide +kernel, rfl, by decide +kernel, by decide +kernel⟩
abbrev sDForemost : Stmt := topS 16
abbrev nDForemost : List Str := ["preference", "lanes", "lane"]
theorem scDForemost : FnScope nDForemost ["preference", "lanes"] (defScope sDForemost) :=
  ⟨rfl, rfl, rfl, by decide +kernel, rfl, by decide +kernel, by decide +kernel⟩

abbrev sDGoesBefore : Stmt := topS 17
abbrev nDGoesBefore : List Str := ["rule", "last", "one", "other"]
theorem scDGoesBefore : FnScope nDGoesBefore ["rule", "last", "one", "other"] (defScope sDGoesBefore) :=
  ⟨rfl, rfl, rfl, by decide +kernel, rfl, by decide +kernel, by decide +kernel⟩

structure Ers (P : Program) (w : World) (K : PySem.W.Frag) (mg : Str → Option Value) (base : Heap) (c : Nat → Addr) : Prop where
  xNoLane : Er1 P w K mg base "NoLane" (c 0) "value"
  gNoLane : mg "NoLane" = some (.ref (c 0))
  gPassError : mg "PassError" = some (.ref (c 1))
  gNoCount : mg "NoCount" = some (.ref (c 2))
  gBadWord : mg "BadWord" = some (.ref (c 3))
  gOtherLanes : mg "OtherLanes" = some (.ref (c 4))
  gBadRule : mg "BadRule" = some (.ref (c 5))
  gEmpty : mg "Empty" = some (.ref (c 6))
  gTooLarge : mg "TooLarge" = some (.ref (c 7))
  gValueError : mg "ValueError" = none
  exm : ∀ i < 1, PySem.W.exmOne K (.ref (c i)) (.ref (c 1)) = some true
  kit : ∀ i < 1, ∀ j < 8, PySem.W.kitOne K (.ref (c i)) (.ref (c j)) = some (i == j || j == 1)
  kv : ∀ i < 1, PySem.W.kitOne K (.ref (c i)) (.type "ValueError") = some true
  ka0 : ∀ i < 1, PySem.W.kitAny K (.ref (c i)) ([c 6, c 7].map Value.ref) = some ([6, 7].contains i)
  is : ∀ i < 1, IsC K (c i)
/-- a whole number in these bounds -/
def inR (d : PyData) (lo hi : Int) : Bool := match d with
  | .int i => decide (lo ≤ i) && decide (i ≤ hi)
  | _ => false
def numD (d : PyData) : Bool := match d with
  | .int _ => true
  | _ => false
/-- the lanes that some data are -/
def intsD (ds : List PyData) : List Int := ds.filterMap fun d => match d with
  | .int i => some i
  | _ => none
theorem intsD_ints (ns : List Int) : intsD (ns.map .int) = ns := by
  induction ns with
  | nil => rfl
  | cons n r ih => show n :: intsD (r.map .int) = _; rw [ih]
theorem intsD_all {ds : List PyData} {lo hi : Int} : (ds.all fun d => inR d lo hi) = true → ds = (intsD ds).map .int ∧ ∀ i ∈ intsD ds, lo ≤ i ∧ i ≤ hi := by
  induction ds with
  | nil => exact fun _ => ⟨rfl, fun i h => by cases h⟩
  | cons d r ih =>
    intro h
    rw [List.all_cons, Bool.and_eq_true] at h
    obtain ⟨h1, h2⟩ := ih h.2
    cases d with
    | int i =>
      have q := h.1
      simp only [inR, Bool.and_eq_true, decide_eq_true_eq] at q
      refine ⟨by conv => lhs; rw [h1]
                 rfl, fun j hj => ?_⟩
      rcases List.mem_cons.mp (show j ∈ i :: intsD r from hj) with rfl | hj
      · exact q
      · exact h2 j hj
    | _ => exact absurd h.1 (by simp [inR])
/-- the whole numbers below n, each once -/
def arrD (v : PyData) (n : Int) : Bool := match v with
  | .tuple xs => decide ((xs.length : Int) = n) && (xs.all fun d => inR d 0 (n - 1)) && decide ((intsD xs).Nodup)
  | _ => false
section
variable {P : Program} {w : World} {K : PySem.W.Frag} {mg : Str → Option Value} {base : Heap} {c : Nat → Addr}
def RNum : RR := fun ss Pd => ∃ d, ss = [.d d] ∧ Pd (.d (.bool (numD d)))
theorem q_number {f : Addr} {fd : FuncData} (F : Fun K "is_number" "is_number" sDIsNumber f fd) (T : Blt mg) : FnOk P w K mg base CX0 1 f fd ["value"] (spQ 1 RNum) := by
  refine okQ F scDIsNumber fun cdv A outer s H E hr => ⟨_, _, (pss_one (ps_ret (pe_and (pe_callB (k_isi (K := K) rfl) rfl T.isinstance bt_isinstance (pa_cons (pv 0) (pa_cons (pe_bltn (v := .ty "int") rfl T.int (by decide +kernel) rfl) pa_nil))) (pe_one (pe_not (pe_callB (k_isi (K := K) rfl) rfl T.isinstance bt_isinstance (pa_cons (pv 0) (pa_cons (pe_bltn (v := .ty "bool") rfl T.bool (by decide +kernel) rfl) pa_nil)))))))), inferInstance, fun ss Pd hl hR => ?_⟩
  obtain ⟨d, rfl, k⟩ := hR
  simp only [List.map_cons, List.map_nil, List.length_cons, List.length_nil, List.cons_append, List.nil_append, List.replicate_succ, List.replicate_zero, Nat.reduceAdd, Nat.reduceSub]; open_z
  refine ⟨by decide, ?_⟩
  cases d <;> simpa [isiD, kindD, numD] using k
def RWithin : RR := fun ss Pd => ∃ d lo hi, ss = [.d d, .d (.int lo), .d (.int hi)] ∧ Pd (.d (.bool (inR d lo hi)))
theorem q_within {f : Addr} {fd : FuncData} (F : Fun K "is_within" "is_within" sDIsWithin f fd) (T : Blt mg) (cis_number : Cal P w K mg base 1 "is_number" ["value"] (spQ 1 RNum)) : FnOk P w K mg base CX0 2 f fd ["value", "low", "high"] (spQ 3 RWithin) := by
  refine okQ F scDIsWithin fun cdv A outer s H E hr => ⟨_, _, (pss_one (ps_ret (pe_and (pe_cal cis_number (hr.mono (by decide)) rfl (pa_cons (pv 0) pa_nil)) (pe_one (pe_chain op_le op_le (pv 1) (pv 0) (pv 2)))))), inferInstance, fun ss Pd hl hR => ?_⟩
  obtain ⟨d, lo, hi, rfl, k⟩ := hR
  simp only [List.map_cons, List.map_nil, List.length_cons, List.length_nil, List.cons_append, List.nil_append, List.replicate_succ, List.replicate_zero, Nat.reduceAdd, Nat.reduceSub]; open_z
  refine ⟨d, rfl, ?_⟩
  cases d with
  | int i =>
    simp only [↓wSeq, ↓wNext, ↓wIfS, ↓wRet, ↓wRetN, ↓wAsg, ↓wDrop, ↓wOp, ↓wUn, ↓wC, ↓wTy, ↓wRef, ↓wB, ↓wAnd, ↓wOr, ↓wNot, ↓wYes, ↓wAndV, ↓wOrV, ↓wNotV, ↓wIf, ↓wChain, ↓wNil, ↓wCons, ↓wTup, ↓wLst, ↓wNoPart, ↓wPart, ↓wSl, ↓wCB, ↓wIt, ↓wRng1, ↓wRng2, ↓wCall, ↓wCallB, ↓wfLst, ↓wfLstOf, ↓wOfF, ↓wForS, ↓wIxm, ↓wRev, ↓wDnew, ↓wRg1, ↓wRg2, ↓wTupRg, ↓wfLstRg, ↓wSeqX, ↓wIfX, ↓wDropX, ↓wRetX, ↓wAsgX, ↓wForX, ↓wCallX, ↓wCallXS, ↓wCall0, ↓wCallS0, ↓wRz1, ↓wRz0, ↓wIfXE, ↓wDispI, ↓wCnt, ↓wXf, ↓wClsT, ↓wgNil, ↓asDs_nil, ↓asDs_cons, ↓asDs_map, ↓asIs_ints, ↓k_var, ↓k_varB, ↓getK_s, ↓getK_d, ↓getK_o, ↓getK_t, ↓getK_r, ↓getB_s, ↓getB_d, ↓getB_o, ↓getB_t, ↓getB_r, ↓getB_w, ↓getO_s, ↓getO_w, ↓setK_s, ↓setK_0, ↓wipeK_n, ↓wipeK_c, ↓k_name, ↓k_lc, ↓k_aug, ↓k_own, ↓k_app, ↓k_rel, ↓k_relX, ↓k_par, ↓k_par3, ↓k_par01, ↓k_par11, ↓k_put, ↓k_appPop, ↓k_try, ↓k_rem, ↓k_lcW, ↓wForW, ↓wForWX, ↓wEnum, ↓rowsD, ↓wStar, ↓wLenSet, ↓wPick, ↓wRun, ↓ite_tt, ↓ite_ff, ↓getB_l, ↓getO2_s, ↓getO2_w, ↓dropK_n, ↓dropK_c, ↓dl1_n, ↓dl1_d, ↓dl1_o, ↓dl1_t, ↓dl1_r, ↓dl1_w, ↓dl1_w2, ↓dl1_l, ↓setAllK_c, ↓setAllK_n, ↓freeK_s, ↓freeK_n, ↓freeK_d, ↓k_ix2, ↓k_app2, ↓k_put2, ↓k_forO, ↓k_parN, ↓k_wpF, ↓k_wpF2, ↓wpE, ↓wfSl, ↓wf2Nil, ↓wGPlain, ↓wG0, ↓wGThen, ↓wGIf, ↓wGYield, ↓wGForS, ↓wLstG, ↓wEnumS, ↓wM1, ↓fCntS, ↓fJoin, ↓fSplit, ↓wRevS, ↓asTs_map, ↓k_tryE, ↓wOpX, ↓asDs_app, ↓fIntS, ↓fInT, ↓wFld, ↓wPropQ, ↓wPropX, ↓wInQ, ↓wIxQ, ↓wMake, ↓wMake0, ↓wEqQ, ↓k_callIQ, ↓wRevT, ↓nE, ↓nT, ↓nA, ↓nI, ↓nOp, ↓nUn, ↓nCons, ↓nTup, ↓nLst, ↓nCB, ↓nB, ↓nAnd, ↓nOr, ↓nNot, ↓nIf, ↓nO, ↓nPart, ↓nIt, ↓nRng1, ↓nRng2, ↓k_nLc, ↓nCall, ↓nS, ↓nSeq, ↓nDrop, ↓nRet, ↓nIfS, ↓nAsg, ↓k_nPar, ↓k_nPar3, ↓k_nParN, ↓wCKw, ↓q_fMaxD, ↓ncomp_lift, ↓nCat, ↓nTimes, ↓k_nFlc, ↓asL2_l, ↓nForS, ↓k_nApp, ↓k_nAppPop, ↓k_nPut, ↓k_nOwn, ↓k_nRel, ↓k_nOpen, ↓nF, ↓nSl, ↓q_fI_1, ↓q_fI0_1, ↓q_fAdd_1, ↓q_fAdd_2, ↓q_fAdd_3, ↓q_fAdd_4, ↓q_fEq_1, ↓q_fNe_1, ↓q_fIn_1, ↓q_fIn_2, ↓q_fIx_1, ↓q_fIx_2, ↓q_fIx_3, ↓q_fIsN_1, ↓q_fU_1, ↓q_asB_1, ↓q_asI_1, ↓q_fSl_1, ↓q_fSl_2, ↓q_fSl_3, ↓q_fLen_1, ↓q_fLen_2, ↓q_fLen_3, ↓q_fLen_4, ↓q_fIsi_1, ↓q_itD_1, ↓q_itD_2, ↓q_itD_3, ↓q_asR1_1, ↓q_asR2_1, ↓q_wgCons_1, ↓q_wgCons_2, ↓q_wgTup_1, ↓q_as2_1, ↓q_as3_1, ↓q_fLstOf_1, ↓q_fLstOf_2, ↓q_fTupOf_1, ↓q_fTupOf_2, ↓q_asD_1, ↓q_fMul_1, ↓q_fMul_2, ↓q_fMul_3, ↓q_fInt_1, ↓q_fInt_2, ↓q_fRepr_1, ↓q_fMin_1, ↓q_fMin_2, ↓q_fAll_1, ↓q_asSeq_1, ↓q_asSeq_2, ↓q_asL_1, ↓q_fNil_1, ↓q_fNil_2, ↓q_fEqS_1, ↓q_fNeS_1, ↓q_asTu_1, ↓q_fSort_1, ↓q_fSort_2, ↓q_fAny_1, ↓q_fMax_1, ↓q_fMax_2, ↓q_fSum_1, ↓q_fStr_1, ↓q_asS_1, ↓q_asS1_1, ↓k_ext, ↓q_exL, ↓q_fMulS, ↓q_fMulT, ↓q_fSortT, ↓fNinT, ↓q_fStr2_1, ↓q_fStr2_2, List.map_cons, List.map_nil, List.length_cons, List.length_nil, List.cons_append, List.nil_append, List.replicate_succ, List.replicate_zero, Option.map_some, Option.map_none, ite_true, ite_false, if_true, if_false, Nat.reduceAdd, Nat.reduceSub, Nat.reduceLeDiff, Bool.false_eq_true, Bool.not_true, Bool.not_false, Bool.true_and, Bool.and_true, Bool.false_and, Bool.and_false, true_and, and_true, Bool.bne_true, Bool.bne_false, Bool.false_bne, Bool.true_bne, bne_self_eq_false, numD]
    by_cases h : lo ≤ i
    · simpa [h, inR] using k
    · simpa [h, inR] using k
  | _ => simpa only [↓wSeq, ↓wNext, ↓wIfS, ↓wRet, ↓wRetN, ↓wAsg, ↓wDrop, ↓wOp, ↓wUn, ↓wC, ↓wTy, ↓wRef, ↓wB, ↓wAnd, ↓wOr, ↓wNot, ↓wYes, ↓wAndV, ↓wOrV, ↓wNotV, ↓wIf, ↓wChain, ↓wNil, ↓wCons, ↓wTup, ↓wLst, ↓wNoPart, ↓wPart, ↓wSl, ↓wCB, ↓wIt, ↓wRng1, ↓wRng2, ↓wCall, ↓wCallB, ↓wfLst, ↓wfLstOf, ↓wOfF, ↓wForS, ↓wIxm, ↓wRev, ↓wDnew, ↓wRg1, ↓wRg2, ↓wTupRg, ↓wfLstRg, ↓wSeqX, ↓wIfX, ↓wDropX, ↓wRetX, ↓wAsgX, ↓wForX, ↓wCallX, ↓wCallXS, ↓wCall0, ↓wCallS0, ↓wRz1, ↓wRz0, ↓wIfXE, ↓wDispI, ↓wCnt, ↓wXf, ↓wClsT, ↓wgNil, ↓asDs_nil, ↓asDs_cons, ↓asDs_map, ↓asIs_ints, ↓k_var, ↓k_varB, ↓getK_s, ↓getK_d, ↓getK_o, ↓getK_t, ↓getK_r, ↓getB_s, ↓getB_d, ↓getB_o, ↓getB_t, ↓getB_r, ↓getB_w, ↓getO_s, ↓getO_w, ↓setK_s, ↓setK_0, ↓wipeK_n, ↓wipeK_c, ↓k_name, ↓k_lc, ↓k_aug, ↓k_own, ↓k_app, ↓k_rel, ↓k_relX, ↓k_par, ↓k_par3, ↓k_par01, ↓k_par11, ↓k_put, ↓k_appPop, ↓k_try, ↓k_rem, ↓k_lcW, ↓wForW, ↓wForWX, ↓wEnum, ↓rowsD, ↓wStar, ↓wLenSet, ↓wPick, ↓wRun, ↓ite_tt, ↓ite_ff, ↓getB_l, ↓getO2_s, ↓getO2_w, ↓dropK_n, ↓dropK_c, ↓dl1_n, ↓dl1_d, ↓dl1_o, ↓dl1_t, ↓dl1_r, ↓dl1_w, ↓dl1_w2, ↓dl1_l, ↓setAllK_c, ↓setAllK_n, ↓freeK_s, ↓freeK_n, ↓freeK_d, ↓k_ix2, ↓k_app2, ↓k_put2, ↓k_forO, ↓k_parN, ↓k_wpF, ↓k_wpF2, ↓wpE, ↓wfSl, ↓wf2Nil, ↓wGPlain, ↓wG0, ↓wGThen, ↓wGIf, ↓wGYield, ↓wGForS, ↓wLstG, ↓wEnumS, ↓wM1, ↓fCntS, ↓fJoin, ↓fSplit, ↓wRevS, ↓asTs_map, ↓k_tryE, ↓wOpX, ↓asDs_app, ↓fIntS, ↓fInT, ↓wFld, ↓wPropQ, ↓wPropX, ↓wInQ, ↓wIxQ, ↓wMake, ↓wMake0, ↓wEqQ, ↓k_callIQ, ↓wRevT, ↓nE, ↓nT, ↓nA, ↓nI, ↓nOp, ↓nUn, ↓nCons, ↓nTup, ↓nLst, ↓nCB, ↓nB, ↓nAnd, ↓nOr, ↓nNot, ↓nIf, ↓nO, ↓nPart, ↓nIt, ↓nRng1, ↓nRng2, ↓k_nLc, ↓nCall, ↓nS, ↓nSeq, ↓nDrop, ↓nRet, ↓nIfS, ↓nAsg, ↓k_nPar, ↓k_nPar3, ↓k_nParN, ↓wCKw, ↓q_fMaxD, ↓ncomp_lift, ↓nCat, ↓nTimes, ↓k_nFlc, ↓asL2_l, ↓nForS, ↓k_nApp, ↓k_nAppPop, ↓k_nPut, ↓k_nOwn, ↓k_nRel, ↓k_nOpen, ↓nF, ↓nSl, ↓q_fI_1, ↓q_fI0_1, ↓q_fAdd_1, ↓q_fAdd_2, ↓q_fAdd_3, ↓q_fAdd_4, ↓q_fEq_1, ↓q_fNe_1, ↓q_fIn_1, ↓q_fIn_2, ↓q_fIx_1, ↓q_fIx_2, ↓q_fIx_3, ↓q_fIsN_1, ↓q_fU_1, ↓q_asB_1, ↓q_asI_1, ↓q_fSl_1, ↓q_fSl_2, ↓q_fSl_3, ↓q_fLen_1, ↓q_fLen_2, ↓q_fLen_3, ↓q_fLen_4, ↓q_fIsi_1, ↓q_itD_1, ↓q_itD_2, ↓q_itD_3, ↓q_asR1_1, ↓q_asR2_1, ↓q_wgCons_1, ↓q_wgCons_2, ↓q_wgTup_1, ↓q_as2_1, ↓q_as3_1, ↓q_fLstOf_1, ↓q_fLstOf_2, ↓q_fTupOf_1, ↓q_fTupOf_2, ↓q_asD_1, ↓q_fMul_1, ↓q_fMul_2, ↓q_fMul_3, ↓q_fInt_1, ↓q_fInt_2, ↓q_fRepr_1, ↓q_fMin_1, ↓q_fMin_2, ↓q_fAll_1, ↓q_asSeq_1, ↓q_asSeq_2, ↓q_asL_1, ↓q_fNil_1, ↓q_fNil_2, ↓q_fEqS_1, ↓q_fNeS_1, ↓q_asTu_1, ↓q_fSort_1, ↓q_fSort_2, ↓q_fAny_1, ↓q_fMax_1, ↓q_fMax_2, ↓q_fSum_1, ↓q_fStr_1, ↓q_asS_1, ↓q_asS1_1, ↓k_ext, ↓q_exL, ↓q_fMulS, ↓q_fMulT, ↓q_fSortT, ↓fNinT, ↓q_fStr2_1, ↓q_fStr2_2, List.map_cons, List.map_nil, List.length_cons, List.length_nil, List.cons_append, List.nil_append, List.replicate_succ, List.replicate_zero, Option.map_some, Option.map_none, ite_true, ite_false, if_true, if_false, Nat.reduceAdd, Nat.reduceSub, Nat.reduceLeDiff, Bool.false_eq_true, Bool.not_true, Bool.not_false, Bool.true_and, Bool.and_true, Bool.false_and, Bool.and_false, true_and, and_true, Bool.bne_true, Bool.bne_false, Bool.false_bne, Bool.true_bne, bne_self_eq_false, numD, inR] using k
def RArr : RR := fun ss Pd => ∃ (v : PyData) (n : Int), ss = [.d v, .d (.int n)] ∧ (∀ xs, v = .tuple xs → xs.length ≤ 4000) ∧ Pd (.d (.bool (arrD v n)))
def RIsLane : RR := fun ss Pd => ∃ xs d, ss = [.d (.tuple xs), .d d] ∧ Pd (.d (.bool (inR d 0 ((xs.length : Int) - 2))))
theorem q_lane {f : Addr} {fd : FuncData} (F : Fun K "is_lane" "is_lane" sDIsLane f fd) (T : Blt mg) (cis_within : Cal P w K mg base 2 "is_within" ["value", "low", "high"] (spQ 3 RWithin)) : FnOk P w K mg base CX0 3 f fd ["rule", "value"] (spQ 2 RIsLane) := by
  refine okQ F scDIsLane fun cdv A outer s H E hr => ⟨_, _, (pss_one (ps_ret (pe_cal cis_within (hr.mono (by decide)) rfl (pa_cons (pv 1) (pa_cons pe_int (pa_cons (pe_op op_sub (pe_callB (k_lenX (K := K) rfl) rfl T.len bt_len (pa_cons (pv 0) pa_nil)) pe_int) pa_nil)))))), inferInstance, fun ss Pd hl hR => ?_⟩
  obtain ⟨xs, d, rfl, k⟩ := hR
  simp only [List.map_cons, List.map_nil, List.length_cons, List.length_nil, List.cons_append, List.nil_append, List.replicate_succ, List.replicate_zero, Nat.reduceAdd, Nat.reduceSub]; open_z
  exact ⟨d, _, _, rfl, k⟩
/-- how a call ends: a value, or an error -/
inductive Out where
  | val (d : PyData)
  | err (x : XV)
def Out.go (o : Out) (Pd : SV → Prop) (xp : PX) : Prop := match o with
  | .val d => Pd (.d d)
  | .err x => xp x
def XCheck (c : Nat → Addr) : RX := fun ss Pd xp => ∃ xs d, ss = [.d (.tuple xs), .d d] ∧ if inR d 0 ((xs.length : Int) - 2) = true then Pd (.d .none) else xp ⟨c 0, some ("value", d)⟩
theorem q_check {f : Addr} {fd : FuncData} (F : Fun K "check_lane" "check_lane" sDCheckLane f fd) (T : Blt mg) (S : Ers P w K mg base c) (cis_lane : Cal P w K mg base 3 "is_lane" ["rule", "value"] (spQ 2 RIsLane)) : FnOk P w K mg base (L2.CX P w) 4 f fd ["rule", "value"] (spX 2 (XCheck c)) := by
  refine okX F scDCheckLane fun cdv A outer s H E hr => ⟨_, _, (pss_one (ps_if (pt_not (pt_val (pe_cal cis_lane (hr.mono (by decide)) rfl (pa_cons (pv 0) (pa_cons (pv 1) pa_nil))))) (pss_one (ps_raiseQ (E := E) rfl (takes_of rfl rfl rfl rfl) (pmk_1 S.xNoLane (hr.mono (by decide)) rfl (pv 1)))) pss_nil)), inferInstance, fun ss Pd xp hl hR => ?_⟩
  obtain ⟨xs, d, rfl, k⟩ := hR
  simp only [List.map_cons, List.map_nil, List.length_cons, List.length_nil, List.cons_append, List.nil_append, List.replicate_succ, List.replicate_zero, Nat.reduceAdd, Nat.reduceSub]; open_z
  refine ⟨xs, d, rfl, ?_⟩
  cases h : inR d 0 ((xs.length : Int) - 2)
  · simpa only [↓wSeq, ↓wNext, ↓wIfS, ↓wRet, ↓wRetN, ↓wAsg, ↓wDrop, ↓wOp, ↓wUn, ↓wC, ↓wTy, ↓wRef, ↓wB, ↓wAnd, ↓wOr, ↓wNot, ↓wYes, ↓wAndV, ↓wOrV, ↓wNotV, ↓wIf, ↓wChain, ↓wNil, ↓wCons, ↓wTup, ↓wLst, ↓wNoPart, ↓wPart, ↓wSl, ↓wCB, ↓wIt, ↓wRng1, ↓wRng2, ↓wCall, ↓wCallB, ↓wfLst, ↓wfLstOf, ↓wOfF, ↓wForS, ↓wIxm, ↓wRev, ↓wDnew, ↓wRg1, ↓wRg2, ↓wTupRg, ↓wfLstRg, ↓wSeqX, ↓wIfX, ↓wDropX, ↓wRetX, ↓wAsgX, ↓wForX, ↓wCallX, ↓wCallXS, ↓wCall0, ↓wCallS0, ↓wRz1, ↓wRz0, ↓wIfXE, ↓wDispI, ↓wCnt, ↓wXf, ↓wClsT, ↓wgNil, ↓asDs_nil, ↓asDs_cons, ↓asDs_map, ↓asIs_ints, ↓k_var, ↓k_varB, ↓getK_s, ↓getK_d, ↓getK_o, ↓getK_t, ↓getK_r, ↓getB_s, ↓getB_d, ↓getB_o, ↓getB_t, ↓getB_r, ↓getB_w, ↓getO_s, ↓getO_w, ↓setK_s, ↓setK_0, ↓wipeK_n, ↓wipeK_c, ↓k_name, ↓k_lc, ↓k_aug, ↓k_own, ↓k_app, ↓k_rel, ↓k_relX, ↓k_par, ↓k_par3, ↓k_par01, ↓k_par11, ↓k_put, ↓k_appPop, ↓k_try, ↓k_rem, ↓k_lcW, ↓wForW, ↓wForWX, ↓wEnum, ↓rowsD, ↓wStar, ↓wLenSet, ↓wPick, ↓wRun, ↓ite_tt, ↓ite_ff, ↓getB_l, ↓getO2_s, ↓getO2_w, ↓dropK_n, ↓dropK_c, ↓dl1_n, ↓dl1_d, ↓dl1_o, ↓dl1_t, ↓dl1_r, ↓dl1_w, ↓dl1_w2, ↓dl1_l, ↓setAllK_c, ↓setAllK_n, ↓freeK_s, ↓freeK_n, ↓freeK_d, ↓k_ix2, ↓k_app2, ↓k_put2, ↓k_forO, ↓k_parN, ↓k_wpF, ↓k_wpF2, ↓wpE, ↓wfSl, ↓wf2Nil, ↓wGPlain, ↓wG0, ↓wGThen, ↓wGIf, ↓wGYield, ↓wGForS, ↓wLstG, ↓wEnumS, ↓wM1, ↓fCntS, ↓fJoin, ↓fSplit, ↓wRevS, ↓asTs_map, ↓k_tryE, ↓wOpX, ↓asDs_app, ↓fIntS, ↓fInT, ↓wFld, ↓wPropQ, ↓wPropX, ↓wInQ, ↓wIxQ, ↓wMake, ↓wMake0, ↓wEqQ, ↓k_callIQ, ↓wRevT, ↓nE, ↓nT, ↓nA, ↓nI, ↓nOp, ↓nUn, ↓nCons, ↓nTup, ↓nLst, ↓nCB, ↓nB, ↓nAnd, ↓nOr, ↓nNot, ↓nIf, ↓nO, ↓nPart, ↓nIt, ↓nRng1, ↓nRng2, ↓k_nLc, ↓nCall, ↓nS, ↓nSeq, ↓nDrop, ↓nRet, ↓nIfS, ↓nAsg, ↓k_nPar, ↓k_nPar3, ↓k_nParN, ↓wCKw, ↓q_fMaxD, ↓ncomp_lift, ↓nCat, ↓nTimes, ↓k_nFlc, ↓asL2_l, ↓nForS, ↓k_nApp, ↓k_nAppPop, ↓k_nPut, ↓k_nOwn, ↓k_nRel, ↓k_nOpen, ↓nF, ↓nSl, ↓q_fI_1, ↓q_fI0_1, ↓q_fAdd_1, ↓q_fAdd_2, ↓q_fAdd_3, ↓q_fAdd_4, ↓q_fEq_1, ↓q_fNe_1, ↓q_fIn_1, ↓q_fIn_2, ↓q_fIx_1, ↓q_fIx_2, ↓q_fIx_3, ↓q_fIsN_1, ↓q_fU_1, ↓q_asB_1, ↓q_asI_1, ↓q_fSl_1, ↓q_fSl_2, ↓q_fSl_3, ↓q_fLen_1, ↓q_fLen_2, ↓q_fLen_3, ↓q_fLen_4, ↓q_fIsi_1, ↓q_itD_1, ↓q_itD_2, ↓q_itD_3, ↓q_asR1_1, ↓q_asR2_1, ↓q_wgCons_1, ↓q_wgCons_2, ↓q_wgTup_1, ↓q_as2_1, ↓q_as3_1, ↓q_fLstOf_1, ↓q_fLstOf_2, ↓q_fTupOf_1, ↓q_fTupOf_2, ↓q_asD_1, ↓q_fMul_1, ↓q_fMul_2, ↓q_fMul_3, ↓q_fInt_1, ↓q_fInt_2, ↓q_fRepr_1, ↓q_fMin_1, ↓q_fMin_2, ↓q_fAll_1, ↓q_asSeq_1, ↓q_asSeq_2, ↓q_asL_1, ↓q_fNil_1, ↓q_fNil_2, ↓q_fEqS_1, ↓q_fNeS_1, ↓q_asTu_1, ↓q_fSort_1, ↓q_fSort_2, ↓q_fAny_1, ↓q_fMax_1, ↓q_fMax_2, ↓q_fSum_1, ↓q_fStr_1, ↓q_asS_1, ↓q_asS1_1, ↓k_ext, ↓q_exL, ↓q_fMulS, ↓q_fMulT, ↓q_fSortT, ↓fNinT, ↓q_fStr2_1, ↓q_fStr2_2, List.map_cons, List.map_nil, List.length_cons, List.length_nil, List.cons_append, List.nil_append, List.replicate_succ, List.replicate_zero, Option.map_some, Option.map_none, ite_true, ite_false, if_true, if_false, Nat.reduceAdd, Nat.reduceSub, Nat.reduceLeDiff, Bool.false_eq_true, Bool.not_true, Bool.not_false, Bool.true_and, Bool.and_true, Bool.false_and, Bool.and_false, true_and, and_true, Bool.bne_true, Bool.bne_false, Bool.false_bne, Bool.true_bne, bne_self_eq_false, h] using k
  · simpa only [↓wSeq, ↓wNext, ↓wIfS, ↓wRet, ↓wRetN, ↓wAsg, ↓wDrop, ↓wOp, ↓wUn, ↓wC, ↓wTy, ↓wRef, ↓wB, ↓wAnd, ↓wOr, ↓wNot, ↓wYes, ↓wAndV, ↓wOrV, ↓wNotV, ↓wIf, ↓wChain, ↓wNil, ↓wCons, ↓wTup, ↓wLst, ↓wNoPart, ↓wPart, ↓wSl, ↓wCB, ↓wIt, ↓wRng1, ↓wRng2, ↓wCall, ↓wCallB, ↓wfLst, ↓wfLstOf, ↓wOfF, ↓wForS, ↓wIxm, ↓wRev, ↓wDnew, ↓wRg1, ↓wRg2, ↓wTupRg, ↓wfLstRg, ↓wSeqX, ↓wIfX, ↓wDropX, ↓wRetX, ↓wAsgX, ↓wForX, ↓wCallX, ↓wCallXS, ↓wCall0, ↓wCallS0, ↓wRz1, ↓wRz0, ↓wIfXE, ↓wDispI, ↓wCnt, ↓wXf, ↓wClsT, ↓wgNil, ↓asDs_nil, ↓asDs_cons, ↓asDs_map, ↓asIs_ints, ↓k_var, ↓k_varB, ↓getK_s, ↓getK_d, ↓getK_o, ↓getK_t, ↓getK_r, ↓getB_s, ↓getB_d, ↓getB_o, ↓getB_t, ↓getB_r, ↓getB_w, ↓getO_s, ↓getO_w, ↓setK_s, ↓setK_0, ↓wipeK_n, ↓wipeK_c, ↓k_name, ↓k_lc, ↓k_aug, ↓k_own, ↓k_app, ↓k_rel, ↓k_relX, ↓k_par, ↓k_par3, ↓k_par01, ↓k_par11, ↓k_put, ↓k_appPop, ↓k_try, ↓k_rem, ↓k_lcW, ↓wForW, ↓wForWX, ↓wEnum, ↓rowsD, ↓wStar, ↓wLenSet, ↓wPick, ↓wRun, ↓ite_tt, ↓ite_ff, ↓getB_l, ↓getO2_s, ↓getO2_w, ↓dropK_n, ↓dropK_c, ↓dl1_n, ↓dl1_d, ↓dl1_o, ↓dl1_t, ↓dl1_r, ↓dl1_w, ↓dl1_w2, ↓dl1_l, ↓setAllK_c, ↓setAllK_n, ↓freeK_s, ↓freeK_n, ↓freeK_d, ↓k_ix2, ↓k_app2, ↓k_put2, ↓k_forO, ↓k_parN, ↓k_wpF, ↓k_wpF2, ↓wpE, ↓wfSl, ↓wf2Nil, ↓wGPlain, ↓wG0, ↓wGThen, ↓wGIf, ↓wGYield, ↓wGForS, ↓wLstG, ↓wEnumS, ↓wM1, ↓fCntS, ↓fJoin, ↓fSplit, ↓wRevS, ↓asTs_map, ↓k_tryE, ↓wOpX, ↓asDs_app, ↓fIntS, ↓fInT, ↓wFld, ↓wPropQ, ↓wPropX, ↓wInQ, ↓wIxQ, ↓wMake, ↓wMake0, ↓wEqQ, ↓k_callIQ, ↓wRevT, ↓nE, ↓nT, ↓nA, ↓nI, ↓nOp, ↓nUn, ↓nCons, ↓nTup, ↓nLst, ↓nCB, ↓nB, ↓nAnd, ↓nOr, ↓nNot, ↓nIf, ↓nO, ↓nPart, ↓nIt, ↓nRng1, ↓nRng2, ↓k_nLc, ↓nCall, ↓nS, ↓nSeq, ↓nDrop, ↓nRet, ↓nIfS, ↓nAsg, ↓k_nPar, ↓k_nPar3, ↓k_nParN, ↓wCKw, ↓q_fMaxD, ↓ncomp_lift, ↓nCat, ↓nTimes, ↓k_nFlc, ↓asL2_l, ↓nForS, ↓k_nApp, ↓k_nAppPop, ↓k_nPut, ↓k_nOwn, ↓k_nRel, ↓k_nOpen, ↓nF, ↓nSl, ↓q_fI_1, ↓q_fI0_1, ↓q_fAdd_1, ↓q_fAdd_2, ↓q_fAdd_3, ↓q_fAdd_4, ↓q_fEq_1, ↓q_fNe_1, ↓q_fIn_1, ↓q_fIn_2, ↓q_fIx_1, ↓q_fIx_2, ↓q_fIx_3, ↓q_fIsN_1, ↓q_fU_1, ↓q_asB_1, ↓q_asI_1, ↓q_fSl_1, ↓q_fSl_2, ↓q_fSl_3, ↓q_fLen_1, ↓q_fLen_2, ↓q_fLen_3, ↓q_fLen_4, ↓q_fIsi_1, ↓q_itD_1, ↓q_itD_2, ↓q_itD_3, ↓q_asR1_1, ↓q_asR2_1, ↓q_wgCons_1, ↓q_wgCons_2, ↓q_wgTup_1, ↓q_as2_1, ↓q_as3_1, ↓q_fLstOf_1, ↓q_fLstOf_2, ↓q_fTupOf_1, ↓q_fTupOf_2, ↓q_asD_1, ↓q_fMul_1, ↓q_fMul_2, ↓q_fMul_3, ↓q_fInt_1, ↓q_fInt_2, ↓q_fRepr_1, ↓q_fMin_1, ↓q_fMin_2, ↓q_fAll_1, ↓q_asSeq_1, ↓q_asSeq_2, ↓q_asL_1, ↓q_fNil_1, ↓q_fNil_2, ↓q_fEqS_1, ↓q_fNeS_1, ↓q_asTu_1, ↓q_fSort_1, ↓q_fSort_2, ↓q_fAny_1, ↓q_fMax_1, ↓q_fMax_2, ↓q_fSum_1, ↓q_fStr_1, ↓q_asS_1, ↓q_asS1_1, ↓k_ext, ↓q_exL, ↓q_fMulS, ↓q_fMulT, ↓q_fSortT, ↓fNinT, ↓q_fStr2_1, ↓q_fStr2_2, List.map_cons, List.map_nil, List.length_cons, List.length_nil, List.cons_append, List.nil_append, List.replicate_succ, List.replicate_zero, Option.map_some, Option.map_none, ite_true, ite_false, if_true, if_false, Nat.reduceAdd, Nat.reduceSub, Nat.reduceLeDiff, Bool.false_eq_true, Bool.not_true, Bool.not_false, Bool.true_and, Bool.and_true, Bool.false_and, Bool.and_false, true_and, and_true, Bool.bne_true, Bool.bne_false, Bool.false_bne, Bool.true_bne, bne_self_eq_false, h] using k
/-- the preference that counts after l -/
def prefAft (c : Nat → Addr) (xs : List PyData) (l : PyData) : Out := match l with
  | .none => .val (xs.getD 0 .none)
  | l => if inR l 0 ((xs.length : Int) - 2) = true then (match l with | .int i => .val (xs.getD (1 + i.toNat) .none) | _ => .val .none) else .err ⟨c 0, some ("value", l)⟩
def XPref (c : Nat → Addr) : RX := fun ss Pd xp => ∃ xs l, ss = [.d (.tuple xs), .d l] ∧ 2 ≤ xs.length ∧ (prefAft c xs l).go Pd xp
theorem q_pref {f : Addr} {fd : FuncData} (F : Fun K "preference_after" "preference_after" sDPreferenceAfter f fd) (T : Blt mg) (S : Ers P w K mg base c) (ccheck_lane : CalX P w K mg base 4 "check_lane" ["rule", "value"] (spX 2 (XCheck c))) : FnOk P w K mg base (L2.CX P w) 5 f fd ["rule", "last"] (spX 2 (XPref c)) := by
  refine okX F scDPreferenceAfter fun cdv A outer s H E hr => ⟨_, _, (pss_cons (ps_if (pt_cmpR ko_isN (pv 1) pe_non (nomark _)) (pss_one (ps_ret (pe_ix (kx_X (K := K) rfl) (pv 0) pe_int (fun _ _ => rfl)))) pss_nil)
    (pss_cons (ps_expr (pe_calX ccheck_lane (hr.mono (by decide)) (takes_of rfl rfl rfl rfl) rfl (pa_cons (pv 0) (pa_cons (pv 1) pa_nil))))
    (pss_one (ps_ret (pe_ix (kx_X (K := K) rfl) (pv 0) (pe_op (ko_add (K := K) rfl) pe_int (pv 1)) (fun _ _ => rfl)))))), inferInstance, fun ss Pd xp hl hR => ?_⟩
  obtain ⟨xs, l, rfl, h2, k⟩ := hR
  simp only [List.map_cons, List.map_nil, List.length_cons, List.length_nil, List.cons_append, List.nil_append, List.replicate_succ, List.replicate_zero, Nat.reduceAdd, Nat.reduceSub]; open_z
  cases hl : isNone l with
  | true =>
    have : l = .none := by cases l <;> first | rfl | cases hl
    subst this
    open_z
    cases xs with
    | nil => simp at h2
    | cons x r => exact ⟨x, at_list (by decide) rfl, k⟩
  | false =>
    open_z
    refine ⟨xs, l, rfl, ?_⟩
    have e : prefAft c xs l = if inR l 0 ((xs.length : Int) - 2) = true then (match l with | .int i => .val (xs.getD (1 + i.toNat) .none) | _ => .val .none) else .err ⟨c 0, some ("value", l)⟩ := by
      cases l <;> first | rfl | cases hl
    rw [e] at k
    cases h : inR l 0 ((xs.length : Int) - 2)
    · rw [h] at k
      simpa only [↓wSeq, ↓wNext, ↓wIfS, ↓wRet, ↓wRetN, ↓wAsg, ↓wDrop, ↓wOp, ↓wUn, ↓wC, ↓wTy, ↓wRef, ↓wB, ↓wAnd, ↓wOr, ↓wNot, ↓wYes, ↓wAndV, ↓wOrV, ↓wNotV, ↓wIf, ↓wChain, ↓wNil, ↓wCons, ↓wTup, ↓wLst, ↓wNoPart, ↓wPart, ↓wSl, ↓wCB, ↓wIt, ↓wRng1, ↓wRng2, ↓wCall, ↓wCallB, ↓wfLst, ↓wfLstOf, ↓wOfF, ↓wForS, ↓wIxm, ↓wRev, ↓wDnew, ↓wRg1, ↓wRg2, ↓wTupRg, ↓wfLstRg, ↓wSeqX, ↓wIfX, ↓wDropX, ↓wRetX, ↓wAsgX, ↓wForX, ↓wCallX, ↓wCallXS, ↓wCall0, ↓wCallS0, ↓wRz1, ↓wRz0, ↓wIfXE, ↓wDispI, ↓wCnt, ↓wXf, ↓wClsT, ↓wgNil, ↓asDs_nil, ↓asDs_cons, ↓asDs_map, ↓asIs_ints, ↓k_var, ↓k_varB, ↓getK_s, ↓getK_d, ↓getK_o, ↓getK_t, ↓getK_r, ↓getB_s, ↓getB_d, ↓getB_o, ↓getB_t, ↓getB_r, ↓getB_w, ↓getO_s, ↓getO_w, ↓setK_s, ↓setK_0, ↓wipeK_n, ↓wipeK_c, ↓k_name, ↓k_lc, ↓k_aug, ↓k_own, ↓k_app, ↓k_rel, ↓k_relX, ↓k_par, ↓k_par3, ↓k_par01, ↓k_par11, ↓k_put, ↓k_appPop, ↓k_try, ↓k_rem, ↓k_lcW, ↓wForW, ↓wForWX, ↓wEnum, ↓rowsD, ↓wStar, ↓wLenSet, ↓wPick, ↓wRun, ↓ite_tt, ↓ite_ff, ↓getB_l, ↓getO2_s, ↓getO2_w, ↓dropK_n, ↓dropK_c, ↓dl1_n, ↓dl1_d, ↓dl1_o, ↓dl1_t, ↓dl1_r, ↓dl1_w, ↓dl1_w2, ↓dl1_l, ↓setAllK_c, ↓setAllK_n, ↓freeK_s, ↓freeK_n, ↓freeK_d, ↓k_ix2, ↓k_app2, ↓k_put2, ↓k_forO, ↓k_parN, ↓k_wpF, ↓k_wpF2, ↓wpE, ↓wfSl, ↓wf2Nil, ↓wGPlain, ↓wG0, ↓wGThen, ↓wGIf, ↓wGYield, ↓wGForS, ↓wLstG, ↓wEnumS, ↓wM1, ↓fCntS, ↓fJoin, ↓fSplit, ↓wRevS, ↓asTs_map, ↓k_tryE, ↓wOpX, ↓asDs_app, ↓fIntS, ↓fInT, ↓wFld, ↓wPropQ, ↓wPropX, ↓wInQ, ↓wIxQ, ↓wMake, ↓wMake0, ↓wEqQ, ↓k_callIQ, ↓wRevT, ↓nE, ↓nT, ↓nA, ↓nI, ↓nOp, ↓nUn, ↓nCons, ↓nTup, ↓nLst, ↓nCB, ↓nB, ↓nAnd, ↓nOr, ↓nNot, ↓nIf, ↓nO, ↓nPart, ↓nIt, ↓nRng1, ↓nRng2, ↓k_nLc, ↓nCall, ↓nS, ↓nSeq, ↓nDrop, ↓nRet, ↓nIfS, ↓nAsg, ↓k_nPar, ↓k_nPar3, ↓k_nParN, ↓wCKw, ↓q_fMaxD, ↓ncomp_lift, ↓nCat, ↓nTimes, ↓k_nFlc, ↓asL2_l, ↓nForS, ↓k_nApp, ↓k_nAppPop, ↓k_nPut, ↓k_nOwn, ↓k_nRel, ↓k_nOpen, ↓nF, ↓nSl, ↓q_fI_1, ↓q_fI0_1, ↓q_fAdd_1, ↓q_fAdd_2, ↓q_fAdd_3, ↓q_fAdd_4, ↓q_fEq_1, ↓q_fNe_1, ↓q_fIn_1, ↓q_fIn_2, ↓q_fIx_1, ↓q_fIx_2, ↓q_fIx_3, ↓q_fIsN_1, ↓q_fU_1, ↓q_asB_1, ↓q_asI_1, ↓q_fSl_1, ↓q_fSl_2, ↓q_fSl_3, ↓q_fLen_1, ↓q_fLen_2, ↓q_fLen_3, ↓q_fLen_4, ↓q_fIsi_1, ↓q_itD_1, ↓q_itD_2, ↓q_itD_3, ↓q_asR1_1, ↓q_asR2_1, ↓q_wgCons_1, ↓q_wgCons_2, ↓q_wgTup_1, ↓q_as2_1, ↓q_as3_1, ↓q_fLstOf_1, ↓q_fLstOf_2, ↓q_fTupOf_1, ↓q_fTupOf_2, ↓q_asD_1, ↓q_fMul_1, ↓q_fMul_2, ↓q_fMul_3, ↓q_fInt_1, ↓q_fInt_2, ↓q_fRepr_1, ↓q_fMin_1, ↓q_fMin_2, ↓q_fAll_1, ↓q_asSeq_1, ↓q_asSeq_2, ↓q_asL_1, ↓q_fNil_1, ↓q_fNil_2, ↓q_fEqS_1, ↓q_fNeS_1, ↓q_asTu_1, ↓q_fSort_1, ↓q_fSort_2, ↓q_fAny_1, ↓q_fMax_1, ↓q_fMax_2, ↓q_fSum_1, ↓q_fStr_1, ↓q_asS_1, ↓q_asS1_1, ↓k_ext, ↓q_exL, ↓q_fMulS, ↓q_fMulT, ↓q_fSortT, ↓fNinT, ↓q_fStr2_1, ↓q_fStr2_2, List.map_cons, List.map_nil, List.length_cons, List.length_nil, List.cons_append, List.nil_append, List.replicate_succ, List.replicate_zero, Option.map_some, Option.map_none, ite_true, ite_false, if_true, if_false, Nat.reduceAdd, Nat.reduceSub, Nat.reduceLeDiff, Bool.false_eq_true, Bool.not_true, Bool.not_false, Bool.true_and, Bool.and_true, Bool.false_and, Bool.and_false, true_and, and_true, Bool.bne_true, Bool.bne_false, Bool.false_bne, Bool.true_bne, bne_self_eq_false, Out.go] using k
    · rw [h] at k
      cases l with
      | int i =>
        simp only [inR, Bool.and_eq_true, decide_eq_true_eq] at h
        open_z
        refine ⟨_, at_list (by omega) (List.getElem?_eq_getElem (by omega)), ?_⟩
        have e3 : (1 + i).toNat = 1 + i.toNat := by omega
        simp only [if_true, Out.go] at k
        rw [List.getD_eq_getElem?_getD, List.getElem?_eq_getElem (by omega)] at k
        simp only [e3]
        exact k
      | _ => cases h
def RFore : RR := fun ss Pd => ∃ (pn ls : List Int) (q : PyData) (z : Int) (rest : List Int), ss = [.d (prefD pn), .d q] ∧ (q = .tuple (ls.map .int) ∨ q = .list (ls.map .int)) ∧ pn.length ≤ 1000 ∧ pn.filter (fun x => decide (x ∈ ls)) = z :: rest ∧ Pd (.d (.int z))
theorem q_fore {f : Addr} {fd : FuncData} (F : Fun K "foremost" "foremost" sDForemost f fd) (T : Blt mg) : FnOk P w K mg base CX0 1 f fd ["preference", "lanes"] (spQ 2 RFore) := by
  refine okQ F scDForemost fun cdv A outer s H E hr => ⟨_, _, (pss_one (ps_ret (pe_ix (kx_X (K := K) rfl) (lcQ (vs := [2]) rfl (pe_lc (own := [("lane", 2)]) (g := gName 2)  (by rfl) scDForemost.nd (ki_any (K := K) rfl (pv 0)) (blkOk_by (own := [("lane", 2)]) (N := nDForemost) (sc := defScope sDForemost) (by decide +kernel)) (fun _ _ _ _ _ => (pg_name (i := 2) scDForemost.nd rfl (Or.inl rfl))) (fun _ _ _ _ _ => pts_one (pt_cmpR (ko_inD (K := K) rfl hr.units) (pv 2) (pv 1) (by rfl))) (fun _ _ _ _ _ => (pv 2)))) pe_int (fun _ _ => rfl)))), inferInstance, fun ss Pd hl hR => ?_⟩
  obtain ⟨pn, ls, q, z, rest, rfl, hq, hn, hf, k⟩ := hR
  unfold prefD
  simp only [List.map_cons, List.map_nil, List.length_cons, List.length_nil, List.cons_append, List.nil_append, List.replicate_succ, List.replicate_zero, Nat.reduceAdd, Nat.reduceSub]; open_z
  refine ⟨by simp; omega, comp_if (fun x => decide (x ∈ ls)) (fun n hn K2 hk => ?_) ?_⟩
  · rcases hq with rfl | rfl
    · simp only [wStep, ↓wSeq, ↓wNext, ↓wIfS, ↓wRet, ↓wRetN, ↓wAsg, ↓wDrop, ↓wOp, ↓wUn, ↓wC, ↓wTy, ↓wRef, ↓wB, ↓wAnd, ↓wOr, ↓wNot, ↓wYes, ↓wAndV, ↓wOrV, ↓wNotV, ↓wIf, ↓wChain, ↓wNil, ↓wCons, ↓wTup, ↓wLst, ↓wNoPart, ↓wPart, ↓wSl, ↓wCB, ↓wIt, ↓wRng1, ↓wRng2, ↓wCall, ↓wCallB, ↓wfLst, ↓wfLstOf, ↓wOfF, ↓wForS, ↓wIxm, ↓wRev, ↓wDnew, ↓wRg1, ↓wRg2, ↓wTupRg, ↓wfLstRg, ↓wSeqX, ↓wIfX, ↓wDropX, ↓wRetX, ↓wAsgX, ↓wForX, ↓wCallX, ↓wCallXS, ↓wCall0, ↓wCallS0, ↓wRz1, ↓wRz0, ↓wIfXE, ↓wDispI, ↓wCnt, ↓wXf, ↓wClsT, ↓wgNil, ↓asDs_nil, ↓asDs_cons, ↓asDs_map, ↓asIs_ints, ↓k_var, ↓k_varB, ↓getK_s, ↓getK_d, ↓getK_o, ↓getK_t, ↓getK_r, ↓getB_s, ↓getB_d, ↓getB_o, ↓getB_t, ↓getB_r, ↓getB_w, ↓getO_s, ↓getO_w, ↓setK_s, ↓setK_0, ↓wipeK_n, ↓wipeK_c, ↓k_name, ↓k_lc, ↓k_aug, ↓k_own, ↓k_app, ↓k_rel, ↓k_relX, ↓k_par, ↓k_par3, ↓k_par01, ↓k_par11, ↓k_put, ↓k_appPop, ↓k_try, ↓k_rem, ↓k_lcW, ↓wForW, ↓wForWX, ↓wEnum, ↓rowsD, ↓wStar, ↓wLenSet, ↓wPick, ↓wRun, ↓ite_tt, ↓ite_ff, ↓getB_l, ↓getO2_s, ↓getO2_w, ↓dropK_n, ↓dropK_c, ↓dl1_n, ↓dl1_d, ↓dl1_o, ↓dl1_t, ↓dl1_r, ↓dl1_w, ↓dl1_w2, ↓dl1_l, ↓setAllK_c, ↓setAllK_n, ↓freeK_s, ↓freeK_n, ↓freeK_d, ↓k_ix2, ↓k_app2, ↓k_put2, ↓k_forO, ↓k_parN, ↓k_wpF, ↓k_wpF2, ↓wpE, ↓wfSl, ↓wf2Nil, ↓wGPlain, ↓wG0, ↓wGThen, ↓wGIf, ↓wGYield, ↓wGForS, ↓wLstG, ↓wEnumS, ↓wM1, ↓fCntS, ↓fJoin, ↓fSplit, ↓wRevS, ↓asTs_map, ↓k_tryE, ↓wOpX, ↓asDs_app, ↓fIntS, ↓fInT, ↓wFld, ↓wPropQ, ↓wPropX, ↓wInQ, ↓wIxQ, ↓wMake, ↓wMake0, ↓wEqQ, ↓k_callIQ, ↓wRevT, ↓nE, ↓nT, ↓nA, ↓nI, ↓nOp, ↓nUn, ↓nCons, ↓nTup, ↓nLst, ↓nCB, ↓nB, ↓nAnd, ↓nOr, ↓nNot, ↓nIf, ↓nO, ↓nPart, ↓nIt, ↓nRng1, ↓nRng2, ↓k_nLc, ↓nCall, ↓nS, ↓nSeq, ↓nDrop, ↓nRet, ↓nIfS, ↓nAsg, ↓k_nPar, ↓k_nPar3, ↓k_nParN, ↓wCKw, ↓q_fMaxD, ↓ncomp_lift, ↓nCat, ↓nTimes, ↓k_nFlc, ↓asL2_l, ↓nForS, ↓k_nApp, ↓k_nAppPop, ↓k_nPut, ↓k_nOwn, ↓k_nRel, ↓k_nOpen, ↓nF, ↓nSl, ↓q_fI_1, ↓q_fI0_1, ↓q_fAdd_1, ↓q_fAdd_2, ↓q_fAdd_3, ↓q_fAdd_4, ↓q_fEq_1, ↓q_fNe_1, ↓q_fIn_1, ↓q_fIn_2, ↓q_fIx_1, ↓q_fIx_2, ↓q_fIx_3, ↓q_fIsN_1, ↓q_fU_1, ↓q_asB_1, ↓q_asI_1, ↓q_fSl_1, ↓q_fSl_2, ↓q_fSl_3, ↓q_fLen_1, ↓q_fLen_2, ↓q_fLen_3, ↓q_fLen_4, ↓q_fIsi_1, ↓q_itD_1, ↓q_itD_2, ↓q_itD_3, ↓q_asR1_1, ↓q_asR2_1, ↓q_wgCons_1, ↓q_wgCons_2, ↓q_wgTup_1, ↓q_as2_1, ↓q_as3_1, ↓q_fLstOf_1, ↓q_fLstOf_2, ↓q_fTupOf_1, ↓q_fTupOf_2, ↓q_asD_1, ↓q_fMul_1, ↓q_fMul_2, ↓q_fMul_3, ↓q_fInt_1, ↓q_fInt_2, ↓q_fRepr_1, ↓q_fMin_1, ↓q_fMin_2, ↓q_fAll_1, ↓q_asSeq_1, ↓q_asSeq_2, ↓q_asL_1, ↓q_fNil_1, ↓q_fNil_2, ↓q_fEqS_1, ↓q_fNeS_1, ↓q_asTu_1, ↓q_fSort_1, ↓q_fSort_2, ↓q_fAny_1, ↓q_fMax_1, ↓q_fMax_2, ↓q_fSum_1, ↓q_fStr_1, ↓q_asS_1, ↓q_asS1_1, ↓k_ext, ↓q_exL, ↓q_fMulS, ↓q_fMulT, ↓q_fSortT, ↓fNinT, ↓q_fStr2_1, ↓q_fStr2_2, List.map_cons, List.map_nil, List.length_cons, List.length_nil, List.cons_append, List.nil_append, List.replicate_succ, List.replicate_zero, Option.map_some, Option.map_none, ite_true, ite_false, if_true, if_false, Nat.reduceAdd, Nat.reduceSub, Nat.reduceLeDiff, Bool.false_eq_true, Bool.not_true, Bool.not_false, Bool.true_and, Bool.and_true, Bool.false_and, Bool.and_false, true_and, and_true, Bool.bne_true, Bool.bne_false, Bool.false_bne, Bool.true_bne, bne_self_eq_false, any_int]
      refine ⟨rfl, shp_ints ls, ?_⟩
      cases h : decide (n ∈ ls) <;> simpa only [↓wSeq, ↓wNext, ↓wIfS, ↓wRet, ↓wRetN, ↓wAsg, ↓wDrop, ↓wOp, ↓wUn, ↓wC, ↓wTy, ↓wRef, ↓wB, ↓wAnd, ↓wOr, ↓wNot, ↓wYes, ↓wAndV, ↓wOrV, ↓wNotV, ↓wIf, ↓wChain, ↓wNil, ↓wCons, ↓wTup, ↓wLst, ↓wNoPart, ↓wPart, ↓wSl, ↓wCB, ↓wIt, ↓wRng1, ↓wRng2, ↓wCall, ↓wCallB, ↓wfLst, ↓wfLstOf, ↓wOfF, ↓wForS, ↓wIxm, ↓wRev, ↓wDnew, ↓wRg1, ↓wRg2, ↓wTupRg, ↓wfLstRg, ↓wSeqX, ↓wIfX, ↓wDropX, ↓wRetX, ↓wAsgX, ↓wForX, ↓wCallX, ↓wCallXS, ↓wCall0, ↓wCallS0, ↓wRz1, ↓wRz0, ↓wIfXE, ↓wDispI, ↓wCnt, ↓wXf, ↓wClsT, ↓wgNil, ↓asDs_nil, ↓asDs_cons, ↓asDs_map, ↓asIs_ints, ↓k_var, ↓k_varB, ↓getK_s, ↓getK_d, ↓getK_o, ↓getK_t, ↓getK_r, ↓getB_s, ↓getB_d, ↓getB_o, ↓getB_t, ↓getB_r, ↓getB_w, ↓getO_s, ↓getO_w, ↓setK_s, ↓setK_0, ↓wipeK_n, ↓wipeK_c, ↓k_name, ↓k_lc, ↓k_aug, ↓k_own, ↓k_app, ↓k_rel, ↓k_relX, ↓k_par, ↓k_par3, ↓k_par01, ↓k_par11, ↓k_put, ↓k_appPop, ↓k_try, ↓k_rem, ↓k_lcW, ↓wForW, ↓wForWX, ↓wEnum, ↓rowsD, ↓wStar, ↓wLenSet, ↓wPick, ↓wRun, ↓ite_tt, ↓ite_ff, ↓getB_l, ↓getO2_s, ↓getO2_w, ↓dropK_n, ↓dropK_c, ↓dl1_n, ↓dl1_d, ↓dl1_o, ↓dl1_t, ↓dl1_r, ↓dl1_w, ↓dl1_w2, ↓dl1_l, ↓setAllK_c, ↓setAllK_n, ↓freeK_s, ↓freeK_n, ↓freeK_d, ↓k_ix2, ↓k_app2, ↓k_put2, ↓k_forO, ↓k_parN, ↓k_wpF, ↓k_wpF2, ↓wpE, ↓wfSl, ↓wf2Nil, ↓wGPlain, ↓wG0, ↓wGThen, ↓wGIf, ↓wGYield, ↓wGForS, ↓wLstG, ↓wEnumS, ↓wM1, ↓fCntS, ↓fJoin, ↓fSplit, ↓wRevS, ↓asTs_map, ↓k_tryE, ↓wOpX, ↓asDs_app, ↓fIntS, ↓fInT, ↓wFld, ↓wPropQ, ↓wPropX, ↓wInQ, ↓wIxQ, ↓wMake, ↓wMake0, ↓wEqQ, ↓k_callIQ, ↓wRevT, ↓nE, ↓nT, ↓nA, ↓nI, ↓nOp, ↓nUn, ↓nCons, ↓nTup, ↓nLst, ↓nCB, ↓nB, ↓nAnd, ↓nOr, ↓nNot, ↓nIf, ↓nO, ↓nPart, ↓nIt, ↓nRng1, ↓nRng2, ↓k_nLc, ↓nCall, ↓nS, ↓nSeq, ↓nDrop, ↓nRet, ↓nIfS, ↓nAsg, ↓k_nPar, ↓k_nPar3, ↓k_nParN, ↓wCKw, ↓q_fMaxD, ↓ncomp_lift, ↓nCat, ↓nTimes, ↓k_nFlc, ↓asL2_l, ↓nForS, ↓k_nApp, ↓k_nAppPop, ↓k_nPut, ↓k_nOwn, ↓k_nRel, ↓k_nOpen, ↓nF, ↓nSl, ↓q_fI_1, ↓q_fI0_1, ↓q_fAdd_1, ↓q_fAdd_2, ↓q_fAdd_3, ↓q_fAdd_4, ↓q_fEq_1, ↓q_fNe_1, ↓q_fIn_1, ↓q_fIn_2, ↓q_fIx_1, ↓q_fIx_2, ↓q_fIx_3, ↓q_fIsN_1, ↓q_fU_1, ↓q_asB_1, ↓q_asI_1, ↓q_fSl_1, ↓q_fSl_2, ↓q_fSl_3, ↓q_fLen_1, ↓q_fLen_2, ↓q_fLen_3, ↓q_fLen_4, ↓q_fIsi_1, ↓q_itD_1, ↓q_itD_2, ↓q_itD_3, ↓q_asR1_1, ↓q_asR2_1, ↓q_wgCons_1, ↓q_wgCons_2, ↓q_wgTup_1, ↓q_as2_1, ↓q_as3_1, ↓q_fLstOf_1, ↓q_fLstOf_2, ↓q_fTupOf_1, ↓q_fTupOf_2, ↓q_asD_1, ↓q_fMul_1, ↓q_fMul_2, ↓q_fMul_3, ↓q_fInt_1, ↓q_fInt_2, ↓q_fRepr_1, ↓q_fMin_1, ↓q_fMin_2, ↓q_fAll_1, ↓q_asSeq_1, ↓q_asSeq_2, ↓q_asL_1, ↓q_fNil_1, ↓q_fNil_2, ↓q_fEqS_1, ↓q_fNeS_1, ↓q_asTu_1, ↓q_fSort_1, ↓q_fSort_2, ↓q_fAny_1, ↓q_fMax_1, ↓q_fMax_2, ↓q_fSum_1, ↓q_fStr_1, ↓q_asS_1, ↓q_asS1_1, ↓k_ext, ↓q_exL, ↓q_fMulS, ↓q_fMulT, ↓q_fSortT, ↓fNinT, ↓q_fStr2_1, ↓q_fStr2_2, List.map_cons, List.map_nil, List.length_cons, List.length_nil, List.cons_append, List.nil_append, List.replicate_succ, List.replicate_zero, Option.map_some, Option.map_none, ite_true, ite_false, if_true, if_false, Nat.reduceAdd, Nat.reduceSub, Nat.reduceLeDiff, Bool.false_eq_true, Bool.not_true, Bool.not_false, Bool.true_and, Bool.and_true, Bool.false_and, Bool.and_false, true_and, and_true, Bool.bne_true, Bool.bne_false, Bool.false_bne, Bool.true_bne, bne_self_eq_false, h] using hk
    · simp only [wStep, ↓wSeq, ↓wNext, ↓wIfS, ↓wRet, ↓wRetN, ↓wAsg, ↓wDrop, ↓wOp, ↓wUn, ↓wC, ↓wTy, ↓wRef, ↓wB, ↓wAnd, ↓wOr, ↓wNot, ↓wYes, ↓wAndV, ↓wOrV, ↓wNotV, ↓wIf, ↓wChain, ↓wNil, ↓wCons, ↓wTup, ↓wLst, ↓wNoPart, ↓wPart, ↓wSl, ↓wCB, ↓wIt, ↓wRng1, ↓wRng2, ↓wCall, ↓wCallB, ↓wfLst, ↓wfLstOf, ↓wOfF, ↓wForS, ↓wIxm, ↓wRev, ↓wDnew, ↓wRg1, ↓wRg2, ↓wTupRg, ↓wfLstRg, ↓wSeqX, ↓wIfX, ↓wDropX, ↓wRetX, ↓wAsgX, ↓wForX, ↓wCallX, ↓wCallXS, ↓wCall0, ↓wCallS0, ↓wRz1, ↓wRz0, ↓wIfXE, ↓wDispI, ↓wCnt, ↓wXf, ↓wClsT, ↓wgNil, ↓asDs_nil, ↓asDs_cons, ↓asDs_map, ↓asIs_ints, ↓k_var, ↓k_varB, ↓getK_s, ↓getK_d, ↓getK_o, ↓getK_t, ↓getK_r, ↓getB_s, ↓getB_d, ↓getB_o, ↓getB_t, ↓getB_r, ↓getB_w, ↓getO_s, ↓getO_w, ↓setK_s, ↓setK_0, ↓wipeK_n, ↓wipeK_c, ↓k_name, ↓k_lc, ↓k_aug, ↓k_own, ↓k_app, ↓k_rel, ↓k_relX, ↓k_par, ↓k_par3, ↓k_par01, ↓k_par11, ↓k_put, ↓k_appPop, ↓k_try, ↓k_rem, ↓k_lcW, ↓wForW, ↓wForWX, ↓wEnum, ↓rowsD, ↓wStar, ↓wLenSet, ↓wPick, ↓wRun, ↓ite_tt, ↓ite_ff, ↓getB_l, ↓getO2_s, ↓getO2_w, ↓dropK_n, ↓dropK_c, ↓dl1_n, ↓dl1_d, ↓dl1_o, ↓dl1_t, ↓dl1_r, ↓dl1_w, ↓dl1_w2, ↓dl1_l, ↓setAllK_c, ↓setAllK_n, ↓freeK_s, ↓freeK_n, ↓freeK_d, ↓k_ix2, ↓k_app2, ↓k_put2, ↓k_forO, ↓k_parN, ↓k_wpF, ↓k_wpF2, ↓wpE, ↓wfSl, ↓wf2Nil, ↓wGPlain, ↓wG0, ↓wGThen, ↓wGIf, ↓wGYield, ↓wGForS, ↓wLstG, ↓wEnumS, ↓wM1, ↓fCntS, ↓fJoin, ↓fSplit, ↓wRevS, ↓asTs_map, ↓k_tryE, ↓wOpX, ↓asDs_app, ↓fIntS, ↓fInT, ↓wFld, ↓wPropQ, ↓wPropX, ↓wInQ, ↓wIxQ, ↓wMake, ↓wMake0, ↓wEqQ, ↓k_callIQ, ↓wRevT, ↓nE, ↓nT, ↓nA, ↓nI, ↓nOp, ↓nUn, ↓nCons, ↓nTup, ↓nLst, ↓nCB, ↓nB, ↓nAnd, ↓nOr, ↓nNot, ↓nIf, ↓nO, ↓nPart, ↓nIt, ↓nRng1, ↓nRng2, ↓k_nLc, ↓nCall, ↓nS, ↓nSeq, ↓nDrop, ↓nRet, ↓nIfS, ↓nAsg, ↓k_nPar, ↓k_nPar3, ↓k_nParN, ↓wCKw, ↓q_fMaxD, ↓ncomp_lift, ↓nCat, ↓nTimes, ↓k_nFlc, ↓asL2_l, ↓nForS, ↓k_nApp, ↓k_nAppPop, ↓k_nPut, ↓k_nOwn, ↓k_nRel, ↓k_nOpen, ↓nF, ↓nSl, ↓q_fI_1, ↓q_fI0_1, ↓q_fAdd_1, ↓q_fAdd_2, ↓q_fAdd_3, ↓q_fAdd_4, ↓q_fEq_1, ↓q_fNe_1, ↓q_fIn_1, ↓q_fIn_2, ↓q_fIx_1, ↓q_fIx_2, ↓q_fIx_3, ↓q_fIsN_1, ↓q_fU_1, ↓q_asB_1, ↓q_asI_1, ↓q_fSl_1, ↓q_fSl_2, ↓q_fSl_3, ↓q_fLen_1, ↓q_fLen_2, ↓q_fLen_3, ↓q_fLen_4, ↓q_fIsi_1, ↓q_itD_1, ↓q_itD_2, ↓q_itD_3, ↓q_asR1_1, ↓q_asR2_1, ↓q_wgCons_1, ↓q_wgCons_2, ↓q_wgTup_1, ↓q_as2_1, ↓q_as3_1, ↓q_fLstOf_1, ↓q_fLstOf_2, ↓q_fTupOf_1, ↓q_fTupOf_2, ↓q_asD_1, ↓q_fMul_1, ↓q_fMul_2, ↓q_fMul_3, ↓q_fInt_1, ↓q_fInt_2, ↓q_fRepr_1, ↓q_fMin_1, ↓q_fMin_2, ↓q_fAll_1, ↓q_asSeq_1, ↓q_asSeq_2, ↓q_asL_1, ↓q_fNil_1, ↓q_fNil_2, ↓q_fEqS_1, ↓q_fNeS_1, ↓q_asTu_1, ↓q_fSort_1, ↓q_fSort_2, ↓q_fAny_1, ↓q_fMax_1, ↓q_fMax_2, ↓q_fSum_1, ↓q_fStr_1, ↓q_asS_1, ↓q_asS1_1, ↓k_ext, ↓q_exL, ↓q_fMulS, ↓q_fMulT, ↓q_fSortT, ↓fNinT, ↓q_fStr2_1, ↓q_fStr2_2, List.map_cons, List.map_nil, List.length_cons, List.length_nil, List.cons_append, List.nil_append, List.replicate_succ, List.replicate_zero, Option.map_some, Option.map_none, ite_true, ite_false, if_true, if_false, Nat.reduceAdd, Nat.reduceSub, Nat.reduceLeDiff, Bool.false_eq_true, Bool.not_true, Bool.not_false, Bool.true_and, Bool.and_true, Bool.false_and, Bool.and_false, true_and, and_true, Bool.bne_true, Bool.bne_false, Bool.false_bne, Bool.true_bne, bne_self_eq_false, any_int]
      refine ⟨rfl, shp_ints ls, ?_⟩
      cases h : decide (n ∈ ls) <;> simpa only [↓wSeq, ↓wNext, ↓wIfS, ↓wRet, ↓wRetN, ↓wAsg, ↓wDrop, ↓wOp, ↓wUn, ↓wC, ↓wTy, ↓wRef, ↓wB, ↓wAnd, ↓wOr, ↓wNot, ↓wYes, ↓wAndV, ↓wOrV, ↓wNotV, ↓wIf, ↓wChain, ↓wNil, ↓wCons, ↓wTup, ↓wLst, ↓wNoPart, ↓wPart, ↓wSl, ↓wCB, ↓wIt, ↓wRng1, ↓wRng2, ↓wCall, ↓wCallB, ↓wfLst, ↓wfLstOf, ↓wOfF, ↓wForS, ↓wIxm, ↓wRev, ↓wDnew, ↓wRg1, ↓wRg2, ↓wTupRg, ↓wfLstRg, ↓wSeqX, ↓wIfX, ↓wDropX, ↓wRetX, ↓wAsgX, ↓wForX, ↓wCallX, ↓wCallXS, ↓wCall0, ↓wCallS0, ↓wRz1, ↓wRz0, ↓wIfXE, ↓wDispI, ↓wCnt, ↓wXf, ↓wClsT, ↓wgNil, ↓asDs_nil, ↓asDs_cons, ↓asDs_map, ↓asIs_ints, ↓k_var, ↓k_varB, ↓getK_s, ↓getK_d, ↓getK_o, ↓getK_t, ↓getK_r, ↓getB_s, ↓getB_d, ↓getB_o, ↓getB_t, ↓getB_r, ↓getB_w, ↓getO_s, ↓getO_w, ↓setK_s, ↓setK_0, ↓wipeK_n, ↓wipeK_c, ↓k_name, ↓k_lc, ↓k_aug, ↓k_own, ↓k_app, ↓k_rel, ↓k_relX, ↓k_par, ↓k_par3, ↓k_par01, ↓k_par11, ↓k_put, ↓k_appPop, ↓k_try, ↓k_rem, ↓k_lcW, ↓wForW, ↓wForWX, ↓wEnum, ↓rowsD, ↓wStar, ↓wLenSet, ↓wPick, ↓wRun, ↓ite_tt, ↓ite_ff, ↓getB_l, ↓getO2_s, ↓getO2_w, ↓dropK_n, ↓dropK_c, ↓dl1_n, ↓dl1_d, ↓dl1_o, ↓dl1_t, ↓dl1_r, ↓dl1_w, ↓dl1_w2, ↓dl1_l, ↓setAllK_c, ↓setAllK_n, ↓freeK_s, ↓freeK_n, ↓freeK_d, ↓k_ix2, ↓k_app2, ↓k_put2, ↓k_forO, ↓k_parN, ↓k_wpF, ↓k_wpF2, ↓wpE, ↓wfSl, ↓wf2Nil, ↓wGPlain, ↓wG0, ↓wGThen, ↓wGIf, ↓wGYield, ↓wGForS, ↓wLstG, ↓wEnumS, ↓wM1, ↓fCntS, ↓fJoin, ↓fSplit, ↓wRevS, ↓asTs_map, ↓k_tryE, ↓wOpX, ↓asDs_app, ↓fIntS, ↓fInT, ↓wFld, ↓wPropQ, ↓wPropX, ↓wInQ, ↓wIxQ, ↓wMake, ↓wMake0, ↓wEqQ, ↓k_callIQ, ↓wRevT, ↓nE, ↓nT, ↓nA, ↓nI, ↓nOp, ↓nUn, ↓nCons, ↓nTup, ↓nLst, ↓nCB, ↓nB, ↓nAnd, ↓nOr, ↓nNot, ↓nIf, ↓nO, ↓nPart, ↓nIt, ↓nRng1, ↓nRng2, ↓k_nLc, ↓nCall, ↓nS, ↓nSeq, ↓nDrop, ↓nRet, ↓nIfS, ↓nAsg, ↓k_nPar, ↓k_nPar3, ↓k_nParN, ↓wCKw, ↓q_fMaxD, ↓ncomp_lift, ↓nCat, ↓nTimes, ↓k_nFlc, ↓asL2_l, ↓nForS, ↓k_nApp, ↓k_nAppPop, ↓k_nPut, ↓k_nOwn, ↓k_nRel, ↓k_nOpen, ↓nF, ↓nSl, ↓q_fI_1, ↓q_fI0_1, ↓q_fAdd_1, ↓q_fAdd_2, ↓q_fAdd_3, ↓q_fAdd_4, ↓q_fEq_1, ↓q_fNe_1, ↓q_fIn_1, ↓q_fIn_2, ↓q_fIx_1, ↓q_fIx_2, ↓q_fIx_3, ↓q_fIsN_1, ↓q_fU_1, ↓q_asB_1, ↓q_asI_1, ↓q_fSl_1, ↓q_fSl_2, ↓q_fSl_3, ↓q_fLen_1, ↓q_fLen_2, ↓q_fLen_3, ↓q_fLen_4, ↓q_fIsi_1, ↓q_itD_1, ↓q_itD_2, ↓q_itD_3, ↓q_asR1_1, ↓q_asR2_1, ↓q_wgCons_1, ↓q_wgCons_2, ↓q_wgTup_1, ↓q_as2_1, ↓q_as3_1, ↓q_fLstOf_1, ↓q_fLstOf_2, ↓q_fTupOf_1, ↓q_fTupOf_2, ↓q_asD_1, ↓q_fMul_1, ↓q_fMul_2, ↓q_fMul_3, ↓q_fInt_1, ↓q_fInt_2, ↓q_fRepr_1, ↓q_fMin_1, ↓q_fMin_2, ↓q_fAll_1, ↓q_asSeq_1, ↓q_asSeq_2, ↓q_asL_1, ↓q_fNil_1, ↓q_fNil_2, ↓q_fEqS_1, ↓q_fNeS_1, ↓q_asTu_1, ↓q_fSort_1, ↓q_fSort_2, ↓q_fAny_1, ↓q_fMax_1, ↓q_fMax_2, ↓q_fSum_1, ↓q_fStr_1, ↓q_asS_1, ↓q_asS1_1, ↓k_ext, ↓q_exL, ↓q_fMulS, ↓q_fMulT, ↓q_fSortT, ↓fNinT, ↓q_fStr2_1, ↓q_fStr2_2, List.map_cons, List.map_nil, List.length_cons, List.length_nil, List.cons_append, List.nil_append, List.replicate_succ, List.replicate_zero, Option.map_some, Option.map_none, ite_true, ite_false, if_true, if_false, Nat.reduceAdd, Nat.reduceSub, Nat.reduceLeDiff, Bool.false_eq_true, Bool.not_true, Bool.not_false, Bool.true_and, Bool.and_true, Bool.false_and, Bool.and_false, true_and, and_true, Bool.bne_true, Bool.bne_false, Bool.false_bne, Bool.true_bne, bne_self_eq_false, h] using hk
  · rw [hf]
    exact ⟨.int z, at_list (by decide) rfl, k⟩
theorem intsD_of {ds : List PyData} {lo hi : Int} : ds.find? (fun d => !inR d lo hi) = none → ds = (intsD ds).map .int ∧ ∀ i ∈ intsD ds, lo ≤ i ∧ i ≤ hi := by
  induction ds with
  | nil => exact fun _ => ⟨rfl, fun i h => by cases h⟩
  | cons d r ih =>
    intro h
    rw [List.find?_cons] at h
    cases q : inR d lo hi with
    | false => rw [q] at h; cases h
    | true =>
      rw [q] at h
      obtain ⟨h1, h2⟩ := ih h
      cases d with
      | int i =>
        simp only [inR, Bool.and_eq_true, decide_eq_true_eq] at q
        refine ⟨by conv => lhs; rw [h1]
                   rfl, fun j hj => ?_⟩
        rcases List.mem_cons.mp (show j ∈ i :: intsD r from hj) with rfl | hj
        · exact q
        · exact h2 j hj
      | _ => cases q
def foreD (p : List Int) (ls : List Int) : Int := ((p.filter fun x => decide (x ∈ ls)).head?).getD 0
/-- what first_lane is to answer -/
def firstL (c : Nat → Addr) (ps : List (List Int)) (l : PyData) (ds : List PyData) : Out :=
  if (!isNone l && !inR l 0 ((ps.length : Int) - 2)) = true then .err ⟨c 0, some ("value", l)⟩
  else if ds.isEmpty = true then .err ⟨c 2, none⟩
  else match ds.find? (fun d => !inR d 0 ((ps.length : Int) - 2)) with
    | some d => .err ⟨c 0, some ("value", d)⟩
    | none => .val (.int (foreD (ps.getD (match l with | .int i => 1 + i.toNat | _ => 0) []) (intsD ds)))
def XFirst (c : Nat → Addr) : RXS := fun ss ds Pd xp => ∃ (n : Nat) (ps : List (List Int)) (l : PyData), ss = [.d (ruleD ps), .d l] ∧ RuleOk n ps ∧ n ≤ 6 ∧ (firstL c ps l ds).go Pd xp
theorem prefAft_rule {n : Nat} {ps : List (List Int)} {l : PyData} (hR : RuleOk n ps) : ((!isNone l && !inR l 0 ((ps.length : Int) - 2)) = true ∧ prefAft c (ps.map prefD) l = .err ⟨c 0, some ("value", l)⟩) ∨
    ((!isNone l && !inR l 0 ((ps.length : Int) - 2)) = false ∧ ∃ pn, ps.getD (match l with | .int i => 1 + i.toNat | _ => 0) [] = pn ∧ pn.Perm (upto n) ∧ prefAft c (ps.map prefD) l = .val (prefD pn)) := by
  obtain ⟨n1, hl, hp⟩ := hR
  have ok : ∀ k, k < ps.length → (ps.getD k []).Perm (upto n) ∧ (ps.map prefD).getD k .none = prefD (ps.getD k []) := fun k hk => by
    rw [List.getD_eq_getElem?_getD, List.getD_eq_getElem?_getD, List.getElem?_map, List.getElem?_eq_getElem hk]
    exact ⟨hp _ (List.getElem_mem hk), rfl⟩
  by_cases h : l = .none
  · subst h
    refine .inr ⟨rfl, _, rfl, (ok 0 (by omega)).1, ?_⟩
    show Out.val _ = _
    rw [(ok 0 (by omega)).2]
  · have e : prefAft c (ps.map prefD) l = if inR l 0 ((ps.length : Int) - 2) = true then (match l with | .int i => .val ((ps.map prefD).getD (1 + i.toNat) .none) | _ => .val .none) else .err ⟨c 0, some ("value", l)⟩ := by
      have el : ((ps.map prefD).length : Int) = ps.length := by simp
      rw [← el]
      cases l <;> first | rfl | exact absurd rfl h
    rw [e]
    cases q : inR l 0 ((ps.length : Int) - 2) with
    | false => exact .inl ⟨by cases l <;> first | rfl | exact absurd rfl h, by simp⟩
    | true =>
      refine .inr ⟨by simp, ?_⟩
      cases l with
      | int i =>
        simp only [inR, Bool.and_eq_true, decide_eq_true_eq] at q
        refine ⟨_, rfl, (ok (1 + i.toNat) (by omega)).1, ?_⟩
        simp only [if_true]
        rw [(ok (1 + i.toNat) (by omega)).2]
      | _ => cases q
theorem fore_ok {n : Nat} {pn ls : List Int} (hp : pn.Perm (upto n)) (h0 : ls ≠ []) (hl : ∀ i ∈ ls, 0 ≤ i ∧ i < n) : ∃ rest, pn.filter (fun x => decide (x ∈ ls)) = foreD pn ls :: rest := by
  unfold foreD
  cases q : pn.filter (fun x => decide (x ∈ ls)) with
  | cons x r => exact ⟨r, rfl⟩
  | nil =>
    cases ls with
    | nil => exact absurd rfl h0
    | cons a r =>
      have hm : a ∈ pn := hp.mem_iff.mpr (mem_upto.mpr (hl a (by simp)))
      have := List.mem_filter (p := fun x => decide (x ∈ a :: r)) |>.mpr ⟨hm, show decide (a ∈ a :: r) = true by simp⟩
      rw [q] at this
      cases this
theorem first_bad {α : Type} {p : α → Bool} : ∀ {ds : List α} {i : Nat} {d : α}, (∀ e ∈ ds.take i, p e = false) → ds[i]? = some d → p d = true → ds.find? p = some d
  | x :: r, 0, d, _, h, hd => by
    simp at h
    subst h
    rw [List.find?_cons, hd]
  | x :: r, i + 1, d, hg, h, hd => by
    rw [List.find?_cons, hg x (by simp)]
    exact first_bad (i := i) (fun e he => hg e (by simp [he])) (by simpa using h) hd
def SmallD (v : PyData) : Prop := ∀ xs, v = .tuple xs → ∀ d ∈ xs, ∀ ys, d = .tuple ys → ys.length ≤ 4000
def rerrD (v : PyData) : PyData := match v with
  | .tuple xs => if 2 ≤ xs.length ∧ xs.length ≤ 7 then (match xs.findIdx? (fun d => !arrD d ((xs.length : Int) - 1)) with | some i => .tuple [.int (i : Nat), .str "preference"] | none => .none) else .tuple [.none, .str "rule"]
  | _ => .tuple [.none, .str "rule"]
def RRErr : RR := fun ss Pd => ∃ v, ss = [.d v] ∧ SmallD v ∧ Pd (.d (rerrD v))
theorem first_idx {α : Type} {p : α → Bool} : ∀ {ds : List α} {i : Nat} {d : α}, (∀ e ∈ ds.take i, p e = false) → ds[i]? = some d → p d = true → ds.findIdx? p = some i
  | x :: r, 0, d, _, h, hd => by
    simp at h
    subst h
    rw [List.findIdx?_cons, hd]
    rfl
  | x :: r, i + 1, d, hg, h, hd => by
    rw [List.findIdx?_cons, hg x (by simp)]
    rw [first_idx (ds := r) (i := i) (fun e he => hg e (by simp [he])) (by simpa using h) hd]
    rfl
def XChk (c : Nat → Addr) : RX := fun ss Pd xp => ∃ v, ss = [.d v] ∧ SmallD v ∧ if isNone (rerrD v) = true then Pd (.d .none) else xp ⟨c 1, some ("error", rerrD v)⟩
/-- the preference that counts after l -/
def prefL (ps : List (List Int)) (l : PyData) : List Int := ps.getD (match l with | .int i => 1 + i.toNat | _ => 0) []
def lastOk (ps : List (List Int)) (l : PyData) : Bool := isNone l || inR l 0 ((ps.length : Int) - 2)
theorem fore_two : ∀ {pn : List Int} {a b : Int}, a ∈ pn → b ∈ pn → (!(a == b) && (foreD pn [a, b] == a)) = decide (pn.idxOf a < pn.idxOf b)
  | x :: r, a, b, ha, hb => by
    by_cases e1 : x = a
    · subst e1
      have : foreD (x :: r) [x, b] = x := by simp [foreD, List.filter_cons]
      rw [this]
      by_cases e2 : x = b
      · subst e2; simp
      · have : (x :: r).idxOf b = r.idxOf b + 1 := by rw [List.idxOf_cons, beq_false_of_ne e2]; rfl
        rw [this, List.idxOf_cons_self]
        simp [e2]
    · by_cases e2 : x = b
      · subst e2
        have : foreD (x :: r) [a, x] = x := by simp [foreD, List.filter_cons]
        rw [this, List.idxOf_cons_self]
        have : ¬ x = a := e1
        simp [this]
      · have ha' : a ∈ r := by
          rcases List.mem_cons.mp ha with q | q
          · exact absurd q.symm e1
          · exact q
        have hb' : b ∈ r := by
          rcases List.mem_cons.mp hb with q | q
          · exact absurd q.symm e2
          · exact q
        have : foreD (x :: r) [a, b] = foreD r [a, b] := by simp [foreD, List.filter_cons, e1, e2]
        rw [this, fore_two ha' hb']
        have i1 : (x :: r).idxOf a = r.idxOf a + 1 := by rw [List.idxOf_cons, beq_false_of_ne e1]; rfl
        have i2 : (x :: r).idxOf b = r.idxOf b + 1 := by rw [List.idxOf_cons, beq_false_of_ne e2]; rfl
        rw [i1, i2]
        simp
def RGoes : RR := fun ss Pd => ∃ (n : Nat) (ps : List (List Int)) (l : PyData) (a b : Int), ss = [.d (ruleD ps), .d l, .d (.int a), .d (.int b)] ∧ RuleOk n ps ∧ n ≤ 6 ∧ lastOk ps l = true ∧ (0 ≤ a ∧ a < n) ∧ (0 ≤ b ∧ b < n) ∧ Pd (.d (.bool (decide ((prefL ps l).idxOf a < (prefL ps l).idxOf b))))
theorem pref_ok {n : Nat} {ps : List (List Int)} {l : PyData} (hR : RuleOk n ps) (h : lastOk ps l = true) : (prefL ps l).Perm (upto n) ∧ prefAft c (ps.map prefD) l = .val (prefD (prefL ps l)) := by
  rcases prefAft_rule (c := c) (l := l) hR with ⟨b, _⟩ | ⟨_, pn, epn, hp, e⟩
  · unfold lastOk at h
    cases q : isNone l <;> rw [q] at h b <;> simp_all
  · have : prefL ps l = pn := epn
    rw [this]
    exact ⟨hp, e⟩
theorem q_goes {f : Addr} {fd : FuncData} (F : Fun K "goes_before" "goes_before" sDGoesBefore f fd) (T : Blt mg) (S : Ers P w K mg base c) (cpreference_after : CalX P w K mg base 5 "preference_after" ["rule", "last"] (spX 2 (XPref c)))
    (cforemost : Cal P w K mg base 1 "foremost" ["preference", "lanes"] (spQ 2 RFore)) : FnOk P w K mg base CX0 6 f fd ["rule", "last", "one", "other"] (spQ 4 RGoes) := by
  refine okQ F scDGoesBefore fun cdv A outer s H E hr => ⟨_, _, (pss_one (ps_ret (pe_and (pe_cmpR (ko_neD (K := K) rfl hr.units) (pv 2) (pv 3) (nomark _)) (pe_one (pe_cmpR (ko_eqD (K := K) rfl hr.units) (pe_cal cforemost (hr.mono (by decide)) rfl (pa_cons (pe_calX cpreference_after (hr.mono (by decide)) takesN rfl (pa_cons (pv 0) (pa_cons (pv 1) pa_nil))) (pa_cons (pe_tupF (pa_cons (pv 2) (pa_cons (pv 3) pa_nil))) pa_nil))) (pv 2) (nomark _)))))), inferInstance, fun ss Pd hl hR => ?_⟩
  obtain ⟨n, ps, l, a, b, rfl, hR, n6, hl, ha, hb, k⟩ := hR
  obtain ⟨hp, e⟩ := pref_ok (c := c) hR hl
  have ma : a ∈ prefL ps l := hp.mem_iff.mpr (mem_upto.mpr ha)
  have mb : b ∈ prefL ps l := hp.mem_iff.mpr (mem_upto.mpr hb)
  rw [← fore_two ma mb] at k
  simp only [List.map_cons, List.map_nil, List.length_cons, List.length_nil, List.cons_append, List.nil_append, List.replicate_succ, List.replicate_zero, Nat.reduceAdd, Nat.reduceSub]; open_z
  simp only [eqv_int]
  refine ⟨rfl, rfl, ?_⟩
  by_cases hab : a = b
  · subst hab
    simpa using k
  · have e1 : (a == b) = false := beq_false_of_ne hab
    rw [e1] at k ⊢
    simp only [↓wSeq, ↓wNext, ↓wIfS, ↓wRet, ↓wRetN, ↓wAsg, ↓wDrop, ↓wOp, ↓wUn, ↓wC, ↓wTy, ↓wRef, ↓wB, ↓wAnd, ↓wOr, ↓wNot, ↓wYes, ↓wAndV, ↓wOrV, ↓wNotV, ↓wIf, ↓wChain, ↓wNil, ↓wCons, ↓wTup, ↓wLst, ↓wNoPart, ↓wPart, ↓wSl, ↓wCB, ↓wIt, ↓wRng1, ↓wRng2, ↓wCall, ↓wCallB, ↓wfLst, ↓wfLstOf, ↓wOfF, ↓wForS, ↓wIxm, ↓wRev, ↓wDnew, ↓wRg1, ↓wRg2, ↓wTupRg, ↓wfLstRg, ↓wSeqX, ↓wIfX, ↓wDropX, ↓wRetX, ↓wAsgX, ↓wForX, ↓wCallX, ↓wCallXS, ↓wCall0, ↓wCallS0, ↓wRz1, ↓wRz0, ↓wIfXE, ↓wDispI, ↓wCnt, ↓wXf, ↓wClsT, ↓wgNil, ↓asDs_nil, ↓asDs_cons, ↓asDs_map, ↓asIs_ints, ↓k_var, ↓k_varB, ↓getK_s, ↓getK_d, ↓getK_o, ↓getK_t, ↓getK_r, ↓getB_s, ↓getB_d, ↓getB_o, ↓getB_t, ↓getB_r, ↓getB_w, ↓getO_s, ↓getO_w, ↓setK_s, ↓setK_0, ↓wipeK_n, ↓wipeK_c, ↓k_name, ↓k_lc, ↓k_aug, ↓k_own, ↓k_app, ↓k_rel, ↓k_relX, ↓k_par, ↓k_par3, ↓k_par01, ↓k_par11, ↓k_put, ↓k_appPop, ↓k_try, ↓k_rem, ↓k_lcW, ↓wForW, ↓wForWX, ↓wEnum, ↓rowsD, ↓wStar, ↓wLenSet, ↓wPick, ↓wRun, ↓ite_tt, ↓ite_ff, ↓getB_l, ↓getO2_s, ↓getO2_w, ↓dropK_n, ↓dropK_c, ↓dl1_n, ↓dl1_d, ↓dl1_o, ↓dl1_t, ↓dl1_r, ↓dl1_w, ↓dl1_w2, ↓dl1_l, ↓setAllK_c, ↓setAllK_n, ↓freeK_s, ↓freeK_n, ↓freeK_d, ↓k_ix2, ↓k_app2, ↓k_put2, ↓k_forO, ↓k_parN, ↓k_wpF, ↓k_wpF2, ↓wpE, ↓wfSl, ↓wf2Nil, ↓wGPlain, ↓wG0, ↓wGThen, ↓wGIf, ↓wGYield, ↓wGForS, ↓wLstG, ↓wEnumS, ↓wM1, ↓fCntS, ↓fJoin, ↓fSplit, ↓wRevS, ↓asTs_map, ↓k_tryE, ↓wOpX, ↓asDs_app, ↓fIntS, ↓fInT, ↓wFld, ↓wPropQ, ↓wPropX, ↓wInQ, ↓wIxQ, ↓wMake, ↓wMake0, ↓wEqQ, ↓k_callIQ, ↓wRevT, ↓nE, ↓nT, ↓nA, ↓nI, ↓nOp, ↓nUn, ↓nCons, ↓nTup, ↓nLst, ↓nCB, ↓nB, ↓nAnd, ↓nOr, ↓nNot, ↓nIf, ↓nO, ↓nPart, ↓nIt, ↓nRng1, ↓nRng2, ↓k_nLc, ↓nCall, ↓nS, ↓nSeq, ↓nDrop, ↓nRet, ↓nIfS, ↓nAsg, ↓k_nPar, ↓k_nPar3, ↓k_nParN, ↓wCKw, ↓q_fMaxD, ↓ncomp_lift, ↓nCat, ↓nTimes, ↓k_nFlc, ↓asL2_l, ↓nForS, ↓k_nApp, ↓k_nAppPop, ↓k_nPut, ↓k_nOwn, ↓k_nRel, ↓k_nOpen, ↓nF, ↓nSl, ↓q_fI_1, ↓q_fI0_1, ↓q_fAdd_1, ↓q_fAdd_2, ↓q_fAdd_3, ↓q_fAdd_4, ↓q_fEq_1, ↓q_fNe_1, ↓q_fIn_1, ↓q_fIn_2, ↓q_fIx_1, ↓q_fIx_2, ↓q_fIx_3, ↓q_fIsN_1, ↓q_fU_1, ↓q_asB_1, ↓q_asI_1, ↓q_fSl_1, ↓q_fSl_2, ↓q_fSl_3, ↓q_fLen_1, ↓q_fLen_2, ↓q_fLen_3, ↓q_fLen_4, ↓q_fIsi_1, ↓q_itD_1, ↓q_itD_2, ↓q_itD_3, ↓q_asR1_1, ↓q_asR2_1, ↓q_wgCons_1, ↓q_wgCons_2, ↓q_wgTup_1, ↓q_as2_1, ↓q_as3_1, ↓q_fLstOf_1, ↓q_fLstOf_2, ↓q_fTupOf_1, ↓q_fTupOf_2, ↓q_asD_1, ↓q_fMul_1, ↓q_fMul_2, ↓q_fMul_3, ↓q_fInt_1, ↓q_fInt_2, ↓q_fRepr_1, ↓q_fMin_1, ↓q_fMin_2, ↓q_fAll_1, ↓q_asSeq_1, ↓q_asSeq_2, ↓q_asL_1, ↓q_fNil_1, ↓q_fNil_2, ↓q_fEqS_1, ↓q_fNeS_1, ↓q_asTu_1, ↓q_fSort_1, ↓q_fSort_2, ↓q_fAny_1, ↓q_fMax_1, ↓q_fMax_2, ↓q_fSum_1, ↓q_fStr_1, ↓q_asS_1, ↓q_asS1_1, ↓k_ext, ↓q_exL, ↓q_fMulS, ↓q_fMulT, ↓q_fSortT, ↓fNinT, ↓q_fStr2_1, ↓q_fStr2_2, List.map_cons, List.map_nil, List.length_cons, List.length_nil, List.cons_append, List.nil_append, List.replicate_succ, List.replicate_zero, Option.map_some, Option.map_none, ite_true, ite_false, if_true, if_false, Nat.reduceAdd, Nat.reduceSub, Nat.reduceLeDiff, Bool.false_eq_true, Bool.not_true, Bool.not_false, Bool.true_and, Bool.and_true, Bool.false_and, Bool.and_false, true_and, and_true, Bool.bne_true, Bool.bne_false, Bool.false_bne, Bool.true_bne, bne_self_eq_false] at k ⊢
    refine ⟨ps.map prefD, l, rfl, by rw [List.length_map, hR.2.1]; have := hR.1; omega, ?_⟩
    rw [e]
    obtain ⟨rest, hrest⟩ := fore_ok (ls := [a, b]) hp (by simp) fun i hi => by
      simp at hi
      rcases hi with rfl | rfl
      · exact ha
      · exact hb
    refine ⟨prefL ps l, [a, b], .tuple [.int a, .int b], _, rest, rfl, .inl rfl, by rw [hp.length_eq, upto_len]; omega, hrest, ?_⟩
    simp only [↓wSeq, ↓wNext, ↓wIfS, ↓wRet, ↓wRetN, ↓wAsg, ↓wDrop, ↓wOp, ↓wUn, ↓wC, ↓wTy, ↓wRef, ↓wB, ↓wAnd, ↓wOr, ↓wNot, ↓wYes, ↓wAndV, ↓wOrV, ↓wNotV, ↓wIf, ↓wChain, ↓wNil, ↓wCons, ↓wTup, ↓wLst, ↓wNoPart, ↓wPart, ↓wSl, ↓wCB, ↓wIt, ↓wRng1, ↓wRng2, ↓wCall, ↓wCallB, ↓wfLst, ↓wfLstOf, ↓wOfF, ↓wForS, ↓wIxm, ↓wRev, ↓wDnew, ↓wRg1, ↓wRg2, ↓wTupRg, ↓wfLstRg, ↓wSeqX, ↓wIfX, ↓wDropX, ↓wRetX, ↓wAsgX, ↓wForX, ↓wCallX, ↓wCallXS, ↓wCall0, ↓wCallS0, ↓wRz1, ↓wRz0, ↓wIfXE, ↓wDispI, ↓wCnt, ↓wXf, ↓wClsT, ↓wgNil, ↓asDs_nil, ↓asDs_cons, ↓asDs_map, ↓asIs_ints, ↓k_var, ↓k_varB, ↓getK_s, ↓getK_d, ↓getK_o, ↓getK_t, ↓getK_r, ↓getB_s, ↓getB_d, ↓getB_o, ↓getB_t, ↓getB_r, ↓getB_w, ↓getO_s, ↓getO_w, ↓setK_s, ↓setK_0, ↓wipeK_n, ↓wipeK_c, ↓k_name, ↓k_lc, ↓k_aug, ↓k_own, ↓k_app, ↓k_rel, ↓k_relX, ↓k_par, ↓k_par3, ↓k_par01, ↓k_par11, ↓k_put, ↓k_appPop, ↓k_try, ↓k_rem, ↓k_lcW, ↓wForW, ↓wForWX, ↓wEnum, ↓rowsD, ↓wStar, ↓wLenSet, ↓wPick, ↓wRun, ↓ite_tt, ↓ite_ff, ↓getB_l, ↓getO2_s, ↓getO2_w, ↓dropK_n, ↓dropK_c, ↓dl1_n, ↓dl1_d, ↓dl1_o, ↓dl1_t, ↓dl1_r, ↓dl1_w, ↓dl1_w2, ↓dl1_l, ↓setAllK_c, ↓setAllK_n, ↓freeK_s, ↓freeK_n, ↓freeK_d, ↓k_ix2, ↓k_app2, ↓k_put2, ↓k_forO, ↓k_parN, ↓k_wpF, ↓k_wpF2, ↓wpE, ↓wfSl, ↓wf2Nil, ↓wGPlain, ↓wG0, ↓wGThen, ↓wGIf, ↓wGYield, ↓wGForS, ↓wLstG, ↓wEnumS, ↓wM1, ↓fCntS, ↓fJoin, ↓fSplit, ↓wRevS, ↓asTs_map, ↓k_tryE, ↓wOpX, ↓asDs_app, ↓fIntS, ↓fInT, ↓wFld, ↓wPropQ, ↓wPropX, ↓wInQ, ↓wIxQ, ↓wMake, ↓wMake0, ↓wEqQ, ↓k_callIQ, ↓wRevT, ↓nE, ↓nT, ↓nA, ↓nI, ↓nOp, ↓nUn, ↓nCons, ↓nTup, ↓nLst, ↓nCB, ↓nB, ↓nAnd, ↓nOr, ↓nNot, ↓nIf, ↓nO, ↓nPart, ↓nIt, ↓nRng1, ↓nRng2, ↓k_nLc, ↓nCall, ↓nS, ↓nSeq, ↓nDrop, ↓nRet, ↓nIfS, ↓nAsg, ↓k_nPar, ↓k_nPar3, ↓k_nParN, ↓wCKw, ↓q_fMaxD, ↓ncomp_lift, ↓nCat, ↓nTimes, ↓k_nFlc, ↓asL2_l, ↓nForS, ↓k_nApp, ↓k_nAppPop, ↓k_nPut, ↓k_nOwn, ↓k_nRel, ↓k_nOpen, ↓nF, ↓nSl, ↓q_fI_1, ↓q_fI0_1, ↓q_fAdd_1, ↓q_fAdd_2, ↓q_fAdd_3, ↓q_fAdd_4, ↓q_fEq_1, ↓q_fNe_1, ↓q_fIn_1, ↓q_fIn_2, ↓q_fIx_1, ↓q_fIx_2, ↓q_fIx_3, ↓q_fIsN_1, ↓q_fU_1, ↓q_asB_1, ↓q_asI_1, ↓q_fSl_1, ↓q_fSl_2, ↓q_fSl_3, ↓q_fLen_1, ↓q_fLen_2, ↓q_fLen_3, ↓q_fLen_4, ↓q_fIsi_1, ↓q_itD_1, ↓q_itD_2, ↓q_itD_3, ↓q_asR1_1, ↓q_asR2_1, ↓q_wgCons_1, ↓q_wgCons_2, ↓q_wgTup_1, ↓q_as2_1, ↓q_as3_1, ↓q_fLstOf_1, ↓q_fLstOf_2, ↓q_fTupOf_1, ↓q_fTupOf_2, ↓q_asD_1, ↓q_fMul_1, ↓q_fMul_2, ↓q_fMul_3, ↓q_fInt_1, ↓q_fInt_2, ↓q_fRepr_1, ↓q_fMin_1, ↓q_fMin_2, ↓q_fAll_1, ↓q_asSeq_1, ↓q_asSeq_2, ↓q_asL_1, ↓q_fNil_1, ↓q_fNil_2, ↓q_fEqS_1, ↓q_fNeS_1, ↓q_asTu_1, ↓q_fSort_1, ↓q_fSort_2, ↓q_fAny_1, ↓q_fMax_1, ↓q_fMax_2, ↓q_fSum_1, ↓q_fStr_1, ↓q_asS_1, ↓q_asS1_1, ↓k_ext, ↓q_exL, ↓q_fMulS, ↓q_fMulT, ↓q_fSortT, ↓fNinT, ↓q_fStr2_1, ↓q_fStr2_2, List.map_cons, List.map_nil, List.length_cons, List.length_nil, List.cons_append, List.nil_append, List.replicate_succ, List.replicate_zero, Option.map_some, Option.map_none, ite_true, ite_false, if_true, if_false, Nat.reduceAdd, Nat.reduceSub, Nat.reduceLeDiff, Bool.false_eq_true, Bool.not_true, Bool.not_false, Bool.true_and, Bool.and_true, Bool.false_and, Bool.and_false, true_and, and_true, Bool.bne_true, Bool.bne_false, Bool.false_bne, Bool.true_bne, bne_self_eq_false, eqv_int]
    exact ⟨rfl, rfl, k⟩
/-- a triple that the rule has -/
def intD (d : PyData) : Int := match d with
  | .int i => i
  | _ => 0
def precD (ps : List (List Int)) (v : PyData) : Bool := match v with
  | .tuple [l, x, y] => lastOk ps l && inR x 0 ((ps.length : Int) - 2) && inR y 0 ((ps.length : Int) - 2) && decide ((prefL ps l).idxOf (intD x) < (prefL ps l).idxOf (intD y))
  | _ => false
def RPrec : RR := fun ss Pd => ∃ (n : Nat) (ps : List (List Int)) (v : PyData), ss = [.d (ruleD ps), .d v] ∧ RuleOk n ps ∧ n ≤ 6 ∧ Pd (.d (.bool (precD ps v)))
end
end Lr

namespace Lr
open PySem L2
abbrev sDLanesOf : Stmt := topS 19
abbrev nDLanesOf : List Str := ["rule"]
theorem scDLanesOf : FnScope nDLanesOf ["rule"] (defScope sDLanesOf) :=
  ⟨rfl, rfl, rfl, by decide +kernel, rfl, by decide +kernel, by decide +kernel⟩
abbrev sDLanesBefore : Stmt := topS 20
abbrev nDLanesBefore : List Str := ["rule", "lane", "last", "other"]
theorem scDLanesBefore : FnScope nDLanesBefore ["rule", "lane", "last"] (defScope sDLanesBefore) :=
  ⟨rfl, rfl, rfl, by decide +kernel, rfl, by decide +kernel, by decide +kernel⟩
abbrev sDRunLengths : Stmt := topS 21
abbrev nDRunLengths : List Str := ["rule", "lane", "ways", "lengths", "item", "last", "way", "other"]
theorem scDRunLengths : FnScope nDRunLengths ["rule", "lane"] (defScope sDRunLengths) :=
  ⟨rfl, rfl, rfl, by decide +kernel, rfl, by decide +kernel, by decide +kernel⟩
abbrev sDBoundOf : Stmt := topS 22
abbrev nDBoundOf : List Str := ["rule", "lane", "longest"]
theorem scDBoundOf : FnScope nDBoundOf ["rule", "lane"] (defScope sDBoundOf) :=
  ⟨rfl, rfl, rfl, by decide +kernel, rfl, by decide +kernel, by decide +kernel⟩

section
variable {P : Program} {w : World} {K : PySem.W.Frag} {mg : Str → Option Value} {base : Heap} {c : Nat → Addr}
def RLanesOf : RR := fun ss Pd => ∃ (xs : List PyData) (n : Nat), ss = [.d (.tuple xs)] ∧ xs.length = n + 1 ∧ n ≤ 1000 ∧ Pd (.d (.list ((upto n).map .int)))
theorem q_lanesof {f : Addr} {fd : FuncData} (F : Fun K "lanes_of" "lanes_of" sDLanesOf f fd) (T : Blt mg) : FnOk P w K mg base CX0 1 f fd ["rule"] (spQ 1 RLanesOf) := by
  refine okQ F scDLanesOf fun cdv A outer s H E hr => ⟨_, _, (pss_one (ps_ret (pe_listRg rfl rfl T.list (prg_1 rfl T.range (pe_op op_sub (pe_callB (k_lenX (K := K) rfl) rfl T.len bt_len (pa_cons (pv 0) pa_nil)) pe_int))))), inferInstance, fun ss Pd hl hR => ?_⟩
  obtain ⟨xs, n, rfl, hx, hn, k⟩ := hR
  simp only [List.map_cons, List.map_nil, List.length_cons, List.length_nil, List.cons_append, List.nil_append, List.replicate_succ, List.replicate_zero, Nat.reduceAdd, Nat.reduceSub]; open_z
  have e : ((xs.length : Nat) : Int) - 1 = n := by omega
  rw [e, rgI_upto]
  exact ⟨⟨by omega, by omega, by omega, by omega⟩, k⟩
/-- the lanes that go before a lane in a preference -/
def befP (n : Nat) (pn : List Int) (lane : Int) : List Int := (upto n).filter fun o => decide (pn.idxOf o < pn.idxOf lane)
def RBefore : RR := fun ss Pd => ∃ (n : Nat) (ps : List (List Int)) (lane : Int) (l : PyData), ss = [.d (ruleD ps), .d (.int lane), .d l] ∧ RuleOk n ps ∧ n ≤ 6 ∧ (0 ≤ lane ∧ lane < n) ∧ lastOk ps l = true ∧ Pd (.d (.list ((befP n (prefL ps l) lane).map .int)))
theorem q_before {f : Addr} {fd : FuncData} (F : Fun K "lanes_before" "lanes_before" sDLanesBefore f fd) (T : Blt mg) (clanes_of : Cal P w K mg base 1 "lanes_of" ["rule"] (spQ 1 RLanesOf)) (cgoes_before : Cal P w K mg base 6 "goes_before" ["rule", "last", "one", "other"] (spQ 4 RGoes)) : FnOk P w K mg base CX0 7 f fd ["rule", "lane", "last"] (spQ 3 RBefore) := by
  refine okQ F scDLanesBefore fun cdv A outer s H E hr => ⟨_, _, (pss_one (ps_ret (lcQ (vs := [3]) rfl (pe_lc (own := [("other", 3)]) (g := gName 3)  (by rfl) scDLanesBefore.nd (ki_any (K := K) rfl (pe_cal clanes_of (hr.mono (by decide)) rfl (pa_cons (pv 0) pa_nil))) (blkOk_by (own := [("other", 3)]) (N := nDLanesBefore) (sc := defScope sDLanesBefore) (by decide +kernel)) (fun _ _ _ _ _ => (pg_name (i := 3) scDLanesBefore.nd rfl (Or.inl rfl))) (fun _ _ _ _ _ => pts_one (pt_val (pe_cal cgoes_before (hr.mono (by decide)) rfl (pa_cons (pv 0) (pa_cons (pv 2) (pa_cons (pv 3) (pa_cons (pv 1) pa_nil))))))) (fun _ _ _ _ _ => (pv 3)))))), inferInstance, fun ss Pd hl hR => ?_⟩
  obtain ⟨n, ps, lane, l, rfl, hR, n6, hl, hlast, k⟩ := hR
  simp only [List.map_cons, List.map_nil, List.length_cons, List.length_nil, List.cons_append, List.nil_append, List.replicate_succ, List.replicate_zero, Nat.reduceAdd, Nat.reduceSub]; open_z
  refine ⟨_, n, rfl, by rw [List.length_map]; exact hR.2.1, by omega, ?_⟩
  open_z
  refine ⟨by simp [upto_len]; omega, comp_if (fun o => decide ((prefL ps l).idxOf o < (prefL ps l).idxOf lane)) (fun o ho K2 hk => ?_) k⟩
  have ho := mem_upto.mp ho
  simp only [wStep, ↓wSeq, ↓wNext, ↓wIfS, ↓wRet, ↓wRetN, ↓wAsg, ↓wDrop, ↓wOp, ↓wUn, ↓wC, ↓wTy, ↓wRef, ↓wB, ↓wAnd, ↓wOr, ↓wNot, ↓wYes, ↓wAndV, ↓wOrV, ↓wNotV, ↓wIf, ↓wChain, ↓wNil, ↓wCons, ↓wTup, ↓wLst, ↓wNoPart, ↓wPart, ↓wSl, ↓wCB, ↓wIt, ↓wRng1, ↓wRng2, ↓wCall, ↓wCallB, ↓wfLst, ↓wfLstOf, ↓wOfF, ↓wForS, ↓wIxm, ↓wRev, ↓wDnew, ↓wRg1, ↓wRg2, ↓wTupRg, ↓wfLstRg, ↓wSeqX, ↓wIfX, ↓wDropX, ↓wRetX, ↓wAsgX, ↓wForX, ↓wCallX, ↓wCallXS, ↓wCall0, ↓wCallS0, ↓wRz1, ↓wRz0, ↓wIfXE, ↓wDispI, ↓wCnt, ↓wXf, ↓wClsT, ↓wgNil, ↓asDs_nil, ↓asDs_cons, ↓asDs_map, ↓asIs_ints, ↓k_var, ↓k_varB, ↓getK_s, ↓getK_d, ↓getK_o, ↓getK_t, ↓getK_r, ↓getB_s, ↓getB_d, ↓getB_o, ↓getB_t, ↓getB_r, ↓getB_w, ↓getO_s, ↓getO_w, ↓setK_s, ↓setK_0, ↓wipeK_n, ↓wipeK_c, ↓k_name, ↓k_lc, ↓k_aug, ↓k_own, ↓k_app, ↓k_rel, ↓k_relX, ↓k_par, ↓k_par3, ↓k_par01, ↓k_par11, ↓k_put, ↓k_appPop, ↓k_try, ↓k_rem, ↓k_lcW, ↓wForW, ↓wForWX, ↓wEnum, ↓rowsD, ↓wStar, ↓wLenSet, ↓wPick, ↓wRun, ↓ite_tt, ↓ite_ff, ↓getB_l, ↓getO2_s, ↓getO2_w, ↓dropK_n, ↓dropK_c, ↓dl1_n, ↓dl1_d, ↓dl1_o, ↓dl1_t, ↓dl1_r, ↓dl1_w, ↓dl1_w2, ↓dl1_l, ↓setAllK_c, ↓setAllK_n, ↓freeK_s, ↓freeK_n, ↓freeK_d, ↓k_ix2, ↓k_app2, ↓k_put2, ↓k_forO, ↓k_parN, ↓k_wpF, ↓k_wpF2, ↓wpE, ↓wfSl, ↓wf2Nil, ↓wGPlain, ↓wG0, ↓wGThen, ↓wGIf, ↓wGYield, ↓wGForS, ↓wLstG, ↓wEnumS, ↓wM1, ↓fCntS, ↓fJoin, ↓fSplit, ↓wRevS, ↓asTs_map, ↓k_tryE, ↓wOpX, ↓asDs_app, ↓fIntS, ↓fInT, ↓wFld, ↓wPropQ, ↓wPropX, ↓wInQ, ↓wIxQ, ↓wMake, ↓wMake0, ↓wEqQ, ↓k_callIQ, ↓wRevT, ↓nE, ↓nT, ↓nA, ↓nI, ↓nOp, ↓nUn, ↓nCons, ↓nTup, ↓nLst, ↓nCB, ↓nB, ↓nAnd, ↓nOr, ↓nNot, ↓nIf, ↓nO, ↓nPart, ↓nIt, ↓nRng1, ↓nRng2, ↓k_nLc, ↓nCall, ↓nS, ↓nSeq, ↓nDrop, ↓nRet, ↓nIfS, ↓nAsg, ↓k_nPar, ↓k_nPar3, ↓k_nParN, ↓wCKw, ↓q_fMaxD, ↓ncomp_lift, ↓nCat, ↓nTimes, ↓k_nFlc, ↓asL2_l, ↓nForS, ↓k_nApp, ↓k_nAppPop, ↓k_nPut, ↓k_nOwn, ↓k_nRel, ↓k_nOpen, ↓nF, ↓nSl, ↓q_fI_1, ↓q_fI0_1, ↓q_fAdd_1, ↓q_fAdd_2, ↓q_fAdd_3, ↓q_fAdd_4, ↓q_fEq_1, ↓q_fNe_1, ↓q_fIn_1, ↓q_fIn_2, ↓q_fIx_1, ↓q_fIx_2, ↓q_fIx_3, ↓q_fIsN_1, ↓q_fU_1, ↓q_asB_1, ↓q_asI_1, ↓q_fSl_1, ↓q_fSl_2, ↓q_fSl_3, ↓q_fLen_1, ↓q_fLen_2, ↓q_fLen_3, ↓q_fLen_4, ↓q_fIsi_1, ↓q_itD_1, ↓q_itD_2, ↓q_itD_3, ↓q_asR1_1, ↓q_asR2_1, ↓q_wgCons_1, ↓q_wgCons_2, ↓q_wgTup_1, ↓q_as2_1, ↓q_as3_1, ↓q_fLstOf_1, ↓q_fLstOf_2, ↓q_fTupOf_1, ↓q_fTupOf_2, ↓q_asD_1, ↓q_fMul_1, ↓q_fMul_2, ↓q_fMul_3, ↓q_fInt_1, ↓q_fInt_2, ↓q_fRepr_1, ↓q_fMin_1, ↓q_fMin_2, ↓q_fAll_1, ↓q_asSeq_1, ↓q_asSeq_2, ↓q_asL_1, ↓q_fNil_1, ↓q_fNil_2, ↓q_fEqS_1, ↓q_fNeS_1, ↓q_asTu_1, ↓q_fSort_1, ↓q_fSort_2, ↓q_fAny_1, ↓q_fMax_1, ↓q_fMax_2, ↓q_fSum_1, ↓q_fStr_1, ↓q_asS_1, ↓q_asS1_1, ↓k_ext, ↓q_exL, ↓q_fMulS, ↓q_fMulT, ↓q_fSortT, ↓fNinT, ↓q_fStr2_1, ↓q_fStr2_2, List.map_cons, List.map_nil, List.length_cons, List.length_nil, List.cons_append, List.nil_append, List.replicate_succ, List.replicate_zero, Option.map_some, Option.map_none, ite_true, ite_false, if_true, if_false, Nat.reduceAdd, Nat.reduceSub, Nat.reduceLeDiff, Bool.false_eq_true, Bool.not_true, Bool.not_false, Bool.true_and, Bool.and_true, Bool.false_and, Bool.and_false, true_and, and_true, Bool.bne_true, Bool.bne_false, Bool.false_bne, Bool.true_bne, bne_self_eq_false]
  refine ⟨n, ps, l, o, lane, rfl, hR, n6, hlast, by omega, hl, ?_⟩
  cases h : decide ((prefL ps l).idxOf o < (prefL ps l).idxOf lane) <;> (rw [h] at hk; simpa [asB] using hk)
theorem upto_get {n i : Nat} (h : i < n) : (upto n)[i]? = some (i : Int) := by unfold upto; simp [h]
theorem prefs_all {n : Nat} {ps : List (List Int)} (h : ps.length = n + 1) : (PyData.none :: (upto n).map PyData.int).map (prefL ps) = ps := by
  cases ps with
  | nil => simp at h
  | cons p r =>
    have hr : r.length = n := by simpa using h
    rw [List.map_cons, List.map_map]
    have e0 : prefL (p :: r) .none = p := rfl
    rw [e0]
    congr 1
    apply List.ext_getElem
    · rw [List.length_map, upto_len, hr]
    · intro i h1 h2
      rw [List.getElem_map]
      have hi : i < (upto n).length := by rw [upto_len, ← hr]; exact h2
      have e : (upto n)[i]'hi = (i : Int) := by
        have q := upto_get (n := n) (i := i) (by rw [← hr]; exact h2)
        rw [List.getElem?_eq_getElem hi] at q
        exact Option.some.inj q
      show prefL (p :: r) (.int ((upto n)[i]'hi)) = r[i]
      rw [e]
      show (p :: r).getD (1 + ((i : Nat) : Int).toNat) [] = r[i]
      rw [Int.toNat_natCast, Nat.add_comm, List.getD_cons_succ, List.getD_eq_getElem?_getD, List.getElem?_eq_getElem h2]
      rfl
def rowsP (n : Nat) (ps : List (List Int)) (lane : Int) : List (List Int) := ps.map fun pn => befP n pn lane
def mxD (ns : List Int) : Int := ns.foldr max 0
def stepL (rows : List (List Int)) (lens : List Int) : List Int := rows.map fun row => mxD (row.map fun o => 1 + lens.getD (1 + o).toNat 0)
def itL (rows : List (List Int)) : Nat → List Int
  | 0 => List.replicate rows.length 0
  | k + 1 => stepL rows (itL rows k)
theorem mxD_le {ns : List Int} {m : Int} (h0 : 0 ≤ m) (h : ∀ x ∈ ns, x ≤ m) : mxD ns ≤ m := by
  induction ns with
  | nil => exact h0
  | cons x r ih => exact Int.max_le.mpr ⟨h x (by simp), ih fun y hy => h y (by simp [hy])⟩
theorem mxD_nn (ns : List Int) : 0 ≤ mxD ns := by
  induction ns with
  | nil => exact Int.le_refl 0
  | cons x r ih => exact Int.le_trans ih (Int.le_max_right _ _)
theorem mxD_ge {ns : List Int} {x : Int} (h : x ∈ ns) : x ≤ mxD ns := by
  induction ns with
  | nil => cases h
  | cons y r ih =>
    rcases List.mem_cons.mp h with rfl | h
    · exact Int.le_max_left _ _
    · exact Int.le_trans (ih h) (Int.le_max_right _ _)
theorem mxD_is {ns : List Int} {m : Int} (h0 : ∀ x ∈ ns, 0 ≤ x) (hm : m ∈ ns) (h : ∀ y ∈ ns, y ≤ m) : m = mxD ns := Int.le_antisymm (mxD_ge hm) (mxD_le (h0 m hm) h)
theorem itL_len (rows : List (List Int)) : ∀ k, (itL rows k).length = rows.length
  | 0 => List.length_replicate
  | k + 1 => by unfold itL stepL; rw [List.length_map]
theorem itL_bd (rows : List (List Int)) : ∀ k, ∀ x ∈ itL rows k, 0 ≤ x ∧ x ≤ k
  | 0, x, h => by rw [(List.mem_replicate.mp h).2]; exact ⟨Int.le_refl 0, Int.le_refl 0⟩
  | k + 1, x, h => by
    unfold itL stepL at h
    obtain ⟨row, _, rfl⟩ := List.mem_map.mp h
    refine ⟨mxD_nn _, mxD_le (by omega) fun y hy => ?_⟩
    obtain ⟨o, _, rfl⟩ := List.mem_map.mp hy
    have : (itL rows k).getD (1 + o).toNat 0 ≤ k := by
      rw [List.getD_eq_getElem?_getD]
      cases q : (itL rows k)[(1 + o).toNat]? with
      | none => simp
      | some z => exact (itL_bd rows k z (List.mem_of_getElem? q)).2
    omega
theorem comp_gm {α : Type} {g : WG} {c : WT} {e : WE} {ρ : Ro} (G : α → PyData) (f : α → PyData) {P : List PyData → Prop} : ∀ {xs : List α}, (∀ x ∈ xs, ∀ K : Option PyData → Prop, K (some (f x)) → wStep g c e ρ (.d (G x)) K) → P (xs.map f) → wComp g c e ρ ((xs.map G).map SV.d) P
  | [], _, hp => hp
  | x :: r, h, hp => by
    rw [List.map_cons, List.map_cons, comp_cons]
    exact h x (by simp) _ (comp_gm G f (P := fun ys => P ((some (f x)).toList ++ ys)) (xs := r) (fun y hy => h y (by simp [hy])) hp)
theorem mem_rows {n : Nat} {ps : List (List Int)} {lane : Int} {row : List Int} (h : row ∈ rowsP n ps lane) : (∀ o ∈ row, 0 ≤ o ∧ o < n) ∧ row.length ≤ n := by
  unfold rowsP at h
  obtain ⟨pn, _, rfl⟩ := List.mem_map.mp h
  refine ⟨fun o ho => mem_upto.mp (List.mem_filter.mp ho).1, ?_⟩
  have := List.length_filter_le (fun o => decide (pn.idxOf o < pn.idxOf lane)) (upto n)
  rw [upto_len] at this
  exact this
def rowD (r : List Int) : PyData := .list (r.map .int)
def RRun : RR := fun ss Pd => ∃ (n : Nat) (ps : List (List Int)) (lane : Int), ss = [.d (ruleD ps), .d (.int lane)] ∧ RuleOk n ps ∧ n ≤ 6 ∧ (0 ≤ lane ∧ lane < n) ∧ Pd (.d (.list ((itL (rowsP n ps lane) n).map .int)))
theorem q_run {f : Addr} {fd : FuncData} (F : Fun K "run_lengths" "run_lengths" sDRunLengths f fd) (T : Blt mg) (clanes_of : Cal P w K mg base 1 "lanes_of" ["rule"] (spQ 1 RLanesOf)) (clanes_before : Cal P w K mg base 7 "lanes_before" ["rule", "lane", "last"] (spQ 3 RBefore)) : FnOk P w K mg base CX0 8 f fd ["rule", "lane"] (spQ 2 RRun) := by
  refine okQ F scDRunLengths fun cdv A outer s H E hr => ⟨_, _, (pss_cons (lcS (vs := [5]) rfl (ps_setLc (i := 2) (own := [("last", 5)]) (g := gName 5)  (by rfl) scDRunLengths.nd rfl rfl (sw_true rfl rfl rfl (by decide +kernel)) (ki_any (K := K) rfl (pe_lst (pa_cons pe_non (StX.pa_star (pe_cal clanes_of (hr.mono (by decide)) rfl (pa_cons (pv 0) pa_nil)) pa_nil)))) (blkOk_by (own := [("last", 5)]) (N := nDRunLengths) (sc := defScope sDRunLengths) (by decide +kernel)) (fun _ _ _ _ _ => (pg_name (i := 5) scDRunLengths.nd rfl (Or.inl rfl))) (fun _ _ _ _ _ => pts_nil) (fun _ _ _ _ _ => (pe_cal clanes_before (hr.mono (by decide)) rfl (pa_cons (pv 0) (pa_cons (pv 1) (pa_cons (pv 5) pa_nil)))))))
    (pss_cons (ps_set (i := 3) scDRunLengths.nd rfl (Or.inr rfl) (lcQ (vs := [6]) rfl (pe_lc (own := [("way", 6)]) (g := gName 6)  (by rfl) scDRunLengths.nd (ki_any (K := K) rfl (pv 2)) (blkOk_by (own := [("way", 6)]) (N := nDRunLengths) (sc := defScope sDRunLengths) (by decide +kernel)) (fun _ _ _ _ _ => (pg_name (i := 6) scDRunLengths.nd rfl (Or.inl rfl))) (fun _ _ _ _ _ => pts_nil) (fun _ _ _ _ _ => pe_int))))
    (pss_cons (ps_for PassesOwn.never rfl (ki_any (K := K) rfl (pe_cal clanes_of (hr.mono (by decide)) rfl (pa_cons (pv 0) pa_nil))) (pg_name (i := 4) scDRunLengths.nd rfl (Or.inl rfl)) (pss_one (ps_set (i := 3) scDRunLengths.nd rfl (Or.inr rfl) (lcQ (vs := [6]) rfl (pe_lc (own := [("way", 6)]) (g := gName 6)  (by rfl) scDRunLengths.nd (ki_any (K := K) rfl (pv 2)) (blkOk_by (own := [("way", 6)]) (N := nDRunLengths) (sc := defScope sDRunLengths) (by decide +kernel)) (fun _ _ _ _ _ => (pg_name (i := 6) scDRunLengths.nd rfl (Or.inl rfl))) (fun _ _ _ _ _ => pts_nil) (fun _ _ _ _ _ => (pe_callBK (cr_maxDf (K := K) rfl rfl) rfl T.max bt_max (pa_cons (lcQ (vs := [7]) rfl (pe_lc (own := [("other", 7)]) (g := gName 7)  (by rfl) scDRunLengths.nd (ki_any (K := K) rfl (pv 6)) (blkOk_by (own := [("other", 7)]) (N := nDRunLengths) (by kernel_rfl)) (fun _ _ _ _ _ => (pg_name (i := 7) scDRunLengths.nd rfl (Or.inl rfl))) (fun _ _ _ _ _ => pts_nil) (fun _ _ _ _ _ => (pe_op (ko_add (K := K) rfl) pe_int (pe_ix (kx_X (K := K) rfl) (pv 3) (pe_op (ko_add (K := K) rfl) pe_int (pv 7)) (fun _ _ => rfl)))))) pa_nil) (pk_cons pe_int pk_nil))))))))
    (pss_one (ps_ret (pv 3)))))), inferInstance, fun ss Pd hl hR => ?_⟩
  obtain ⟨n, ps, lane, rfl, hR, n6, hlane, k⟩ := hR
  simp only [List.map_cons, List.map_nil, List.length_cons, List.length_nil, List.cons_append, List.nil_append, List.replicate_succ, List.replicate_zero, Nat.reduceAdd, Nat.reduceSub]; open_z
  have n1 := hR.1
  have lps : ps.length = n + 1 := hR.2.1
  have hlan : ∀ {Pd : SV → Prop}, Pd (.d (.list ((upto n).map .int))) → RLanesOf [SV.d (ruleD ps)] Pd := fun k => ⟨ps.map prefD, n, rfl, by rw [List.length_map]; exact lps, by omega, k⟩
  have lr : (rowsP n ps lane).length = n + 1 := by unfold rowsP; rw [List.length_map]; exact lps
  refine hlan ?_
  show _ ∧ _ ∧ _
  rw [List.append_nil]
  refine ⟨by simp [upto_len]; omega, by simp [upto_len]; omega, ?_⟩
  rw [← List.map_cons (f := SV.d)]
  refine comp_dm (fun d => rowD (befP n (prefL ps d) lane)) (fun d hd K2 hk => ?_) ?_
  · have hlast : lastOk ps d = true := by
      unfold lastOk
      rcases List.mem_cons.mp hd with rfl | hd
      · rfl
      · obtain ⟨i, hi, rfl⟩ := List.mem_map.mp hd
        have hi := mem_upto.mp hi
        have : inR (.int i) 0 ((ps.length : Int) - 2) = true := by simp only [inR, Bool.and_eq_true, decide_eq_true_eq]; omega
        rw [this, Bool.or_true]
    simp only [wStep, ↓wSeq, ↓wNext, ↓wIfS, ↓wRet, ↓wRetN, ↓wAsg, ↓wDrop, ↓wOp, ↓wUn, ↓wC, ↓wTy, ↓wRef, ↓wB, ↓wAnd, ↓wOr, ↓wNot, ↓wYes, ↓wAndV, ↓wOrV, ↓wNotV, ↓wIf, ↓wChain, ↓wNil, ↓wCons, ↓wTup, ↓wLst, ↓wNoPart, ↓wPart, ↓wSl, ↓wCB, ↓wIt, ↓wRng1, ↓wRng2, ↓wCall, ↓wCallB, ↓wfLst, ↓wfLstOf, ↓wOfF, ↓wForS, ↓wIxm, ↓wRev, ↓wDnew, ↓wRg1, ↓wRg2, ↓wTupRg, ↓wfLstRg, ↓wSeqX, ↓wIfX, ↓wDropX, ↓wRetX, ↓wAsgX, ↓wForX, ↓wCallX, ↓wCallXS, ↓wCall0, ↓wCallS0, ↓wRz1, ↓wRz0, ↓wIfXE, ↓wDispI, ↓wCnt, ↓wXf, ↓wClsT, ↓wgNil, ↓asDs_nil, ↓asDs_cons, ↓asDs_map, ↓asIs_ints, ↓k_var, ↓k_varB, ↓getK_s, ↓getK_d, ↓getK_o, ↓getK_t, ↓getK_r, ↓getB_s, ↓getB_d, ↓getB_o, ↓getB_t, ↓getB_r, ↓getB_w, ↓getO_s, ↓getO_w, ↓setK_s, ↓setK_0, ↓wipeK_n, ↓wipeK_c, ↓k_name, ↓k_lc, ↓k_aug, ↓k_own, ↓k_app, ↓k_rel, ↓k_relX, ↓k_par, ↓k_par3, ↓k_par01, ↓k_par11, ↓k_put, ↓k_appPop, ↓k_try, ↓k_rem, ↓k_lcW, ↓wForW, ↓wForWX, ↓wEnum, ↓rowsD, ↓wStar, ↓wLenSet, ↓wPick, ↓wRun, ↓ite_tt, ↓ite_ff, ↓getB_l, ↓getO2_s, ↓getO2_w, ↓dropK_n, ↓dropK_c, ↓dl1_n, ↓dl1_d, ↓dl1_o, ↓dl1_t, ↓dl1_r, ↓dl1_w, ↓dl1_w2, ↓dl1_l, ↓setAllK_c, ↓setAllK_n, ↓freeK_s, ↓freeK_n, ↓freeK_d, ↓k_ix2, ↓k_app2, ↓k_put2, ↓k_forO, ↓k_parN, ↓k_wpF, ↓k_wpF2, ↓wpE, ↓wfSl, ↓wf2Nil, ↓wGPlain, ↓wG0, ↓wGThen, ↓wGIf, ↓wGYield, ↓wGForS, ↓wLstG, ↓wEnumS, ↓wM1, ↓fCntS, ↓fJoin, ↓fSplit, ↓wRevS, ↓asTs_map, ↓k_tryE, ↓wOpX, ↓asDs_app, ↓fIntS, ↓fInT, ↓wFld, ↓wPropQ, ↓wPropX, ↓wInQ, ↓wIxQ, ↓wMake, ↓wMake0, ↓wEqQ, ↓k_callIQ, ↓wRevT, ↓nE, ↓nT, ↓nA, ↓nI, ↓nOp, ↓nUn, ↓nCons, ↓nTup, ↓nLst, ↓nCB, ↓nB, ↓nAnd, ↓nOr, ↓nNot, ↓nIf, ↓nO, ↓nPart, ↓nIt, ↓nRng1, ↓nRng2, ↓k_nLc, ↓nCall, ↓nS, ↓nSeq, ↓nDrop, ↓nRet, ↓nIfS, ↓nAsg, ↓k_nPar, ↓k_nPar3, ↓k_nParN, ↓wCKw, ↓q_fMaxD, ↓ncomp_lift, ↓nCat, ↓nTimes, ↓k_nFlc, ↓asL2_l, ↓nForS, ↓k_nApp, ↓k_nAppPop, ↓k_nPut, ↓k_nOwn, ↓k_nRel, ↓k_nOpen, ↓nF, ↓nSl, ↓q_fI_1, ↓q_fI0_1, ↓q_fAdd_1, ↓q_fAdd_2, ↓q_fAdd_3, ↓q_fAdd_4, ↓q_fEq_1, ↓q_fNe_1, ↓q_fIn_1, ↓q_fIn_2, ↓q_fIx_1, ↓q_fIx_2, ↓q_fIx_3, ↓q_fIsN_1, ↓q_fU_1, ↓q_asB_1, ↓q_asI_1, ↓q_fSl_1, ↓q_fSl_2, ↓q_fSl_3, ↓q_fLen_1, ↓q_fLen_2, ↓q_fLen_3, ↓q_fLen_4, ↓q_fIsi_1, ↓q_itD_1, ↓q_itD_2, ↓q_itD_3, ↓q_asR1_1, ↓q_asR2_1, ↓q_wgCons_1, ↓q_wgCons_2, ↓q_wgTup_1, ↓q_as2_1, ↓q_as3_1, ↓q_fLstOf_1, ↓q_fLstOf_2, ↓q_fTupOf_1, ↓q_fTupOf_2, ↓q_asD_1, ↓q_fMul_1, ↓q_fMul_2, ↓q_fMul_3, ↓q_fInt_1, ↓q_fInt_2, ↓q_fRepr_1, ↓q_fMin_1, ↓q_fMin_2, ↓q_fAll_1, ↓q_asSeq_1, ↓q_asSeq_2, ↓q_asL_1, ↓q_fNil_1, ↓q_fNil_2, ↓q_fEqS_1, ↓q_fNeS_1, ↓q_asTu_1, ↓q_fSort_1, ↓q_fSort_2, ↓q_fAny_1, ↓q_fMax_1, ↓q_fMax_2, ↓q_fSum_1, ↓q_fStr_1, ↓q_asS_1, ↓q_asS1_1, ↓k_ext, ↓q_exL, ↓q_fMulS, ↓q_fMulT, ↓q_fSortT, ↓fNinT, ↓q_fStr2_1, ↓q_fStr2_2, List.map_cons, List.map_nil, List.length_cons, List.length_nil, List.cons_append, List.nil_append, List.replicate_succ, List.replicate_zero, Option.map_some, Option.map_none, ite_true, ite_false, if_true, if_false, Nat.reduceAdd, Nat.reduceSub, Nat.reduceLeDiff, Bool.false_eq_true, Bool.not_true, Bool.not_false, Bool.true_and, Bool.and_true, Bool.false_and, Bool.and_false, true_and, and_true, Bool.bne_true, Bool.bne_false, Bool.false_bne, Bool.true_bne, bne_self_eq_false]
    exact ⟨n, ps, lane, d, rfl, hR, n6, hlane, hlast, hk⟩
  have e1 : (PyData.none :: (upto n).map PyData.int).map (fun d => rowD (befP n (prefL ps d) lane)) = (rowsP n ps lane).map rowD := by
    unfold rowsP
    rw [← prefs_all (n := n) lps, List.map_map, List.map_map]
    rw [prefs_all (n := n) lps]
    rfl
  rw [e1]
  refine ⟨by rw [List.length_map, List.length_map, lr]; omega, ?_⟩
  refine comp_dm (fun _ => .int 0) (fun d hd K2 hk => ?_) ?_
  · simp only [wStep, ↓wSeq, ↓wNext, ↓wIfS, ↓wRet, ↓wRetN, ↓wAsg, ↓wDrop, ↓wOp, ↓wUn, ↓wC, ↓wTy, ↓wRef, ↓wB, ↓wAnd, ↓wOr, ↓wNot, ↓wYes, ↓wAndV, ↓wOrV, ↓wNotV, ↓wIf, ↓wChain, ↓wNil, ↓wCons, ↓wTup, ↓wLst, ↓wNoPart, ↓wPart, ↓wSl, ↓wCB, ↓wIt, ↓wRng1, ↓wRng2, ↓wCall, ↓wCallB, ↓wfLst, ↓wfLstOf, ↓wOfF, ↓wForS, ↓wIxm, ↓wRev, ↓wDnew, ↓wRg1, ↓wRg2, ↓wTupRg, ↓wfLstRg, ↓wSeqX, ↓wIfX, ↓wDropX, ↓wRetX, ↓wAsgX, ↓wForX, ↓wCallX, ↓wCallXS, ↓wCall0, ↓wCallS0, ↓wRz1, ↓wRz0, ↓wIfXE, ↓wDispI, ↓wCnt, ↓wXf, ↓wClsT, ↓wgNil, ↓asDs_nil, ↓asDs_cons, ↓asDs_map, ↓asIs_ints, ↓k_var, ↓k_varB, ↓getK_s, ↓getK_d, ↓getK_o, ↓getK_t, ↓getK_r, ↓getB_s, ↓getB_d, ↓getB_o, ↓getB_t, ↓getB_r, ↓getB_w, ↓getO_s, ↓getO_w, ↓setK_s, ↓setK_0, ↓wipeK_n, ↓wipeK_c, ↓k_name, ↓k_lc, ↓k_aug, ↓k_own, ↓k_app, ↓k_rel, ↓k_relX, ↓k_par, ↓k_par3, ↓k_par01, ↓k_par11, ↓k_put, ↓k_appPop, ↓k_try, ↓k_rem, ↓k_lcW, ↓wForW, ↓wForWX, ↓wEnum, ↓rowsD, ↓wStar, ↓wLenSet, ↓wPick, ↓wRun, ↓ite_tt, ↓ite_ff, ↓getB_l, ↓getO2_s, ↓getO2_w, ↓dropK_n, ↓dropK_c, ↓dl1_n, ↓dl1_d, ↓dl1_o, ↓dl1_t, ↓dl1_r, ↓dl1_w, ↓dl1_w2, ↓dl1_l, ↓setAllK_c, ↓setAllK_n, ↓freeK_s, ↓freeK_n, ↓freeK_d, ↓k_ix2, ↓k_app2, ↓k_put2, ↓k_forO, ↓k_parN, ↓k_wpF, ↓k_wpF2, ↓wpE, ↓wfSl, ↓wf2Nil, ↓wGPlain, ↓wG0, ↓wGThen, ↓wGIf, ↓wGYield, ↓wGForS, ↓wLstG, ↓wEnumS, ↓wM1, ↓fCntS, ↓fJoin, ↓fSplit, ↓wRevS, ↓asTs_map, ↓k_tryE, ↓wOpX, ↓asDs_app, ↓fIntS, ↓fInT, ↓wFld, ↓wPropQ, ↓wPropX, ↓wInQ, ↓wIxQ, ↓wMake, ↓wMake0, ↓wEqQ, ↓k_callIQ, ↓wRevT, ↓nE, ↓nT, ↓nA, ↓nI, ↓nOp, ↓nUn, ↓nCons, ↓nTup, ↓nLst, ↓nCB, ↓nB, ↓nAnd, ↓nOr, ↓nNot, ↓nIf, ↓nO, ↓nPart, ↓nIt, ↓nRng1, ↓nRng2, ↓k_nLc, ↓nCall, ↓nS, ↓nSeq, ↓nDrop, ↓nRet, ↓nIfS, ↓nAsg, ↓k_nPar, ↓k_nPar3, ↓k_nParN, ↓wCKw, ↓q_fMaxD, ↓ncomp_lift, ↓nCat, ↓nTimes, ↓k_nFlc, ↓asL2_l, ↓nForS, ↓k_nApp, ↓k_nAppPop, ↓k_nPut, ↓k_nOwn, ↓k_nRel, ↓k_nOpen, ↓nF, ↓nSl, ↓q_fI_1, ↓q_fI0_1, ↓q_fAdd_1, ↓q_fAdd_2, ↓q_fAdd_3, ↓q_fAdd_4, ↓q_fEq_1, ↓q_fNe_1, ↓q_fIn_1, ↓q_fIn_2, ↓q_fIx_1, ↓q_fIx_2, ↓q_fIx_3, ↓q_fIsN_1, ↓q_fU_1, ↓q_asB_1, ↓q_asI_1, ↓q_fSl_1, ↓q_fSl_2, ↓q_fSl_3, ↓q_fLen_1, ↓q_fLen_2, ↓q_fLen_3, ↓q_fLen_4, ↓q_fIsi_1, ↓q_itD_1, ↓q_itD_2, ↓q_itD_3, ↓q_asR1_1, ↓q_asR2_1, ↓q_wgCons_1, ↓q_wgCons_2, ↓q_wgTup_1, ↓q_as2_1, ↓q_as3_1, ↓q_fLstOf_1, ↓q_fLstOf_2, ↓q_fTupOf_1, ↓q_fTupOf_2, ↓q_asD_1, ↓q_fMul_1, ↓q_fMul_2, ↓q_fMul_3, ↓q_fInt_1, ↓q_fInt_2, ↓q_fRepr_1, ↓q_fMin_1, ↓q_fMin_2, ↓q_fAll_1, ↓q_asSeq_1, ↓q_asSeq_2, ↓q_asL_1, ↓q_fNil_1, ↓q_fNil_2, ↓q_fEqS_1, ↓q_fNeS_1, ↓q_asTu_1, ↓q_fSort_1, ↓q_fSort_2, ↓q_fAny_1, ↓q_fMax_1, ↓q_fMax_2, ↓q_fSum_1, ↓q_fStr_1, ↓q_asS_1, ↓q_asS1_1, ↓k_ext, ↓q_exL, ↓q_fMulS, ↓q_fMulT, ↓q_fSortT, ↓fNinT, ↓q_fStr2_1, ↓q_fStr2_2, List.map_cons, List.map_nil, List.length_cons, List.length_nil, List.cons_append, List.nil_append, List.replicate_succ, List.replicate_zero, Option.map_some, Option.map_none, ite_true, ite_false, if_true, if_false, Nat.reduceAdd, Nat.reduceSub, Nat.reduceLeDiff, Bool.false_eq_true, Bool.not_true, Bool.not_false, Bool.true_and, Bool.and_true, Bool.false_and, Bool.and_false, true_and, and_true, Bool.bne_true, Bool.bne_false, Bool.false_bne, Bool.true_bne, bne_self_eq_false]
    exact hk
  have e2 : ((rowsP n ps lane).map rowD).map (fun _ => PyData.int 0) = (itL (rowsP n ps lane) 0).map PyData.int := by
    unfold itL
    rw [List.map_map, List.map_replicate, ← List.map_const']
    rfl
  rw [e2]
  refine hlan ?_
  open_z
  refine for_inv (fun i ρ => ∃ t, ρ = [some (.d (ruleD ps)), some (.d (.int lane)), some (.d (.list ((rowsP n ps lane).map rowD))), some (.d (.list ((itL (rowsP n ps lane) i).map .int))), t, none, none, none]) ⟨none, rfl⟩ (fun i x ρ' hx hI N hN => ?_) (fun ρ' hI => ?_)
  · obtain ⟨t, rfl⟩ := hI
    open_z
    refine ⟨by rw [List.length_map, List.length_map, lr]; omega, ?_⟩
    have ll := itL_len (rowsP n ps lane) i
    have hil : i < n := by
      have := (List.getElem?_eq_some_iff.mp hx).1
      rwa [List.length_map, List.length_map, upto_len] at this
    have hbd := itL_bd (rowsP n ps lane) i
    refine comp_gm rowD (fun row => .int (mxD (row.map fun o => 1 + (itL (rowsP n ps lane) i).getD (1 + o).toNat 0))) (fun row hrow K2 hk => ?_) ?_
    · obtain ⟨hr1, hr2⟩ := mem_rows hrow
      simp only [wStep, rowD, ↓wSeq, ↓wNext, ↓wIfS, ↓wRet, ↓wRetN, ↓wAsg, ↓wDrop, ↓wOp, ↓wUn, ↓wC, ↓wTy, ↓wRef, ↓wB, ↓wAnd, ↓wOr, ↓wNot, ↓wYes, ↓wAndV, ↓wOrV, ↓wNotV, ↓wIf, ↓wChain, ↓wNil, ↓wCons, ↓wTup, ↓wLst, ↓wNoPart, ↓wPart, ↓wSl, ↓wCB, ↓wIt, ↓wRng1, ↓wRng2, ↓wCall, ↓wCallB, ↓wfLst, ↓wfLstOf, ↓wOfF, ↓wForS, ↓wIxm, ↓wRev, ↓wDnew, ↓wRg1, ↓wRg2, ↓wTupRg, ↓wfLstRg, ↓wSeqX, ↓wIfX, ↓wDropX, ↓wRetX, ↓wAsgX, ↓wForX, ↓wCallX, ↓wCallXS, ↓wCall0, ↓wCallS0, ↓wRz1, ↓wRz0, ↓wIfXE, ↓wDispI, ↓wCnt, ↓wXf, ↓wClsT, ↓wgNil, ↓asDs_nil, ↓asDs_cons, ↓asDs_map, ↓asIs_ints, ↓k_var, ↓k_varB, ↓getK_s, ↓getK_d, ↓getK_o, ↓getK_t, ↓getK_r, ↓getB_s, ↓getB_d, ↓getB_o, ↓getB_t, ↓getB_r, ↓getB_w, ↓getO_s, ↓getO_w, ↓setK_s, ↓setK_0, ↓wipeK_n, ↓wipeK_c, ↓k_name, ↓k_lc, ↓k_aug, ↓k_own, ↓k_app, ↓k_rel, ↓k_relX, ↓k_par, ↓k_par3, ↓k_par01, ↓k_par11, ↓k_put, ↓k_appPop, ↓k_try, ↓k_rem, ↓k_lcW, ↓wForW, ↓wForWX, ↓wEnum, ↓rowsD, ↓wStar, ↓wLenSet, ↓wPick, ↓wRun, ↓ite_tt, ↓ite_ff, ↓getB_l, ↓getO2_s, ↓getO2_w, ↓dropK_n, ↓dropK_c, ↓dl1_n, ↓dl1_d, ↓dl1_o, ↓dl1_t, ↓dl1_r, ↓dl1_w, ↓dl1_w2, ↓dl1_l, ↓setAllK_c, ↓setAllK_n, ↓freeK_s, ↓freeK_n, ↓freeK_d, ↓k_ix2, ↓k_app2, ↓k_put2, ↓k_forO, ↓k_parN, ↓k_wpF, ↓k_wpF2, ↓wpE, ↓wfSl, ↓wf2Nil, ↓wGPlain, ↓wG0, ↓wGThen, ↓wGIf, ↓wGYield, ↓wGForS, ↓wLstG, ↓wEnumS, ↓wM1, ↓fCntS, ↓fJoin, ↓fSplit, ↓wRevS, ↓asTs_map, ↓k_tryE, ↓wOpX, ↓asDs_app, ↓fIntS, ↓fInT, ↓wFld, ↓wPropQ, ↓wPropX, ↓wInQ, ↓wIxQ, ↓wMake, ↓wMake0, ↓wEqQ, ↓k_callIQ, ↓wRevT, ↓nE, ↓nT, ↓nA, ↓nI, ↓nOp, ↓nUn, ↓nCons, ↓nTup, ↓nLst, ↓nCB, ↓nB, ↓nAnd, ↓nOr, ↓nNot, ↓nIf, ↓nO, ↓nPart, ↓nIt, ↓nRng1, ↓nRng2, ↓k_nLc, ↓nCall, ↓nS, ↓nSeq, ↓nDrop, ↓nRet, ↓nIfS, ↓nAsg, ↓k_nPar, ↓k_nPar3, ↓k_nParN, ↓wCKw, ↓q_fMaxD, ↓ncomp_lift, ↓nCat, ↓nTimes, ↓k_nFlc, ↓asL2_l, ↓nForS, ↓k_nApp, ↓k_nAppPop, ↓k_nPut, ↓k_nOwn, ↓k_nRel, ↓k_nOpen, ↓nF, ↓nSl, ↓q_fI_1, ↓q_fI0_1, ↓q_fAdd_1, ↓q_fAdd_2, ↓q_fAdd_3, ↓q_fAdd_4, ↓q_fEq_1, ↓q_fNe_1, ↓q_fIn_1, ↓q_fIn_2, ↓q_fIx_1, ↓q_fIx_2, ↓q_fIx_3, ↓q_fIsN_1, ↓q_fU_1, ↓q_asB_1, ↓q_asI_1, ↓q_fSl_1, ↓q_fSl_2, ↓q_fSl_3, ↓q_fLen_1, ↓q_fLen_2, ↓q_fLen_3, ↓q_fLen_4, ↓q_fIsi_1, ↓q_itD_1, ↓q_itD_2, ↓q_itD_3, ↓q_asR1_1, ↓q_asR2_1, ↓q_wgCons_1, ↓q_wgCons_2, ↓q_wgTup_1, ↓q_as2_1, ↓q_as3_1, ↓q_fLstOf_1, ↓q_fLstOf_2, ↓q_fTupOf_1, ↓q_fTupOf_2, ↓q_asD_1, ↓q_fMul_1, ↓q_fMul_2, ↓q_fMul_3, ↓q_fInt_1, ↓q_fInt_2, ↓q_fRepr_1, ↓q_fMin_1, ↓q_fMin_2, ↓q_fAll_1, ↓q_asSeq_1, ↓q_asSeq_2, ↓q_asL_1, ↓q_fNil_1, ↓q_fNil_2, ↓q_fEqS_1, ↓q_fNeS_1, ↓q_asTu_1, ↓q_fSort_1, ↓q_fSort_2, ↓q_fAny_1, ↓q_fMax_1, ↓q_fMax_2, ↓q_fSum_1, ↓q_fStr_1, ↓q_asS_1, ↓q_asS1_1, ↓k_ext, ↓q_exL, ↓q_fMulS, ↓q_fMulT, ↓q_fSortT, ↓fNinT, ↓q_fStr2_1, ↓q_fStr2_2, List.map_cons, List.map_nil, List.length_cons, List.length_nil, List.cons_append, List.nil_append, List.replicate_succ, List.replicate_zero, Option.map_some, Option.map_none, ite_true, ite_false, if_true, if_false, Nat.reduceAdd, Nat.reduceSub, Nat.reduceLeDiff, Bool.false_eq_true, Bool.not_true, Bool.not_false, Bool.true_and, Bool.and_true, Bool.false_and, Bool.and_false, true_and, and_true, Bool.bne_true, Bool.bne_false, Bool.false_bne, Bool.true_bne, bne_self_eq_false]
      refine ⟨by rw [List.length_map, List.length_map]; omega, ?_⟩
      refine comp_im (fun o => .int (1 + (itL (rowsP n ps lane) i).getD (1 + o).toNat 0)) (fun o ho K3 hk3 => ?_) ?_
      · simp only [wStep, ↓wSeq, ↓wNext, ↓wIfS, ↓wRet, ↓wRetN, ↓wAsg, ↓wDrop, ↓wOp, ↓wUn, ↓wC, ↓wTy, ↓wRef, ↓wB, ↓wAnd, ↓wOr, ↓wNot, ↓wYes, ↓wAndV, ↓wOrV, ↓wNotV, ↓wIf, ↓wChain, ↓wNil, ↓wCons, ↓wTup, ↓wLst, ↓wNoPart, ↓wPart, ↓wSl, ↓wCB, ↓wIt, ↓wRng1, ↓wRng2, ↓wCall, ↓wCallB, ↓wfLst, ↓wfLstOf, ↓wOfF, ↓wForS, ↓wIxm, ↓wRev, ↓wDnew, ↓wRg1, ↓wRg2, ↓wTupRg, ↓wfLstRg, ↓wSeqX, ↓wIfX, ↓wDropX, ↓wRetX, ↓wAsgX, ↓wForX, ↓wCallX, ↓wCallXS, ↓wCall0, ↓wCallS0, ↓wRz1, ↓wRz0, ↓wIfXE, ↓wDispI, ↓wCnt, ↓wXf, ↓wClsT, ↓wgNil, ↓asDs_nil, ↓asDs_cons, ↓asDs_map, ↓asIs_ints, ↓k_var, ↓k_varB, ↓getK_s, ↓getK_d, ↓getK_o, ↓getK_t, ↓getK_r, ↓getB_s, ↓getB_d, ↓getB_o, ↓getB_t, ↓getB_r, ↓getB_w, ↓getO_s, ↓getO_w, ↓setK_s, ↓setK_0, ↓wipeK_n, ↓wipeK_c, ↓k_name, ↓k_lc, ↓k_aug, ↓k_own, ↓k_app, ↓k_rel, ↓k_relX, ↓k_par, ↓k_par3, ↓k_par01, ↓k_par11, ↓k_put, ↓k_appPop, ↓k_try, ↓k_rem, ↓k_lcW, ↓wForW, ↓wForWX, ↓wEnum, ↓rowsD, ↓wStar, ↓wLenSet, ↓wPick, ↓wRun, ↓ite_tt, ↓ite_ff, ↓getB_l, ↓getO2_s, ↓getO2_w, ↓dropK_n, ↓dropK_c, ↓dl1_n, ↓dl1_d, ↓dl1_o, ↓dl1_t, ↓dl1_r, ↓dl1_w, ↓dl1_w2, ↓dl1_l, ↓setAllK_c, ↓setAllK_n, ↓freeK_s, ↓freeK_n, ↓freeK_d, ↓k_ix2, ↓k_app2, ↓k_put2, ↓k_forO, ↓k_parN, ↓k_wpF, ↓k_wpF2, ↓wpE, ↓wfSl, ↓wf2Nil, ↓wGPlain, ↓wG0, ↓wGThen, ↓wGIf, ↓wGYield, ↓wGForS, ↓wLstG, ↓wEnumS, ↓wM1, ↓fCntS, ↓fJoin, ↓fSplit, ↓wRevS, ↓asTs_map, ↓k_tryE, ↓wOpX, ↓asDs_app, ↓fIntS, ↓fInT, ↓wFld, ↓wPropQ, ↓wPropX, ↓wInQ, ↓wIxQ, ↓wMake, ↓wMake0, ↓wEqQ, ↓k_callIQ, ↓wRevT, ↓nE, ↓nT, ↓nA, ↓nI, ↓nOp, ↓nUn, ↓nCons, ↓nTup, ↓nLst, ↓nCB, ↓nB, ↓nAnd, ↓nOr, ↓nNot, ↓nIf, ↓nO, ↓nPart, ↓nIt, ↓nRng1, ↓nRng2, ↓k_nLc, ↓nCall, ↓nS, ↓nSeq, ↓nDrop, ↓nRet, ↓nIfS, ↓nAsg, ↓k_nPar, ↓k_nPar3, ↓k_nParN, ↓wCKw, ↓q_fMaxD, ↓ncomp_lift, ↓nCat, ↓nTimes, ↓k_nFlc, ↓asL2_l, ↓nForS, ↓k_nApp, ↓k_nAppPop, ↓k_nPut, ↓k_nOwn, ↓k_nRel, ↓k_nOpen, ↓nF, ↓nSl, ↓q_fI_1, ↓q_fI0_1, ↓q_fAdd_1, ↓q_fAdd_2, ↓q_fAdd_3, ↓q_fAdd_4, ↓q_fEq_1, ↓q_fNe_1, ↓q_fIn_1, ↓q_fIn_2, ↓q_fIx_1, ↓q_fIx_2, ↓q_fIx_3, ↓q_fIsN_1, ↓q_fU_1, ↓q_asB_1, ↓q_asI_1, ↓q_fSl_1, ↓q_fSl_2, ↓q_fSl_3, ↓q_fLen_1, ↓q_fLen_2, ↓q_fLen_3, ↓q_fLen_4, ↓q_fIsi_1, ↓q_itD_1, ↓q_itD_2, ↓q_itD_3, ↓q_asR1_1, ↓q_asR2_1, ↓q_wgCons_1, ↓q_wgCons_2, ↓q_wgTup_1, ↓q_as2_1, ↓q_as3_1, ↓q_fLstOf_1, ↓q_fLstOf_2, ↓q_fTupOf_1, ↓q_fTupOf_2, ↓q_asD_1, ↓q_fMul_1, ↓q_fMul_2, ↓q_fMul_3, ↓q_fInt_1, ↓q_fInt_2, ↓q_fRepr_1, ↓q_fMin_1, ↓q_fMin_2, ↓q_fAll_1, ↓q_asSeq_1, ↓q_asSeq_2, ↓q_asL_1, ↓q_fNil_1, ↓q_fNil_2, ↓q_fEqS_1, ↓q_fNeS_1, ↓q_asTu_1, ↓q_fSort_1, ↓q_fSort_2, ↓q_fAny_1, ↓q_fMax_1, ↓q_fMax_2, ↓q_fSum_1, ↓q_fStr_1, ↓q_asS_1, ↓q_asS1_1, ↓k_ext, ↓q_exL, ↓q_fMulS, ↓q_fMulT, ↓q_fSortT, ↓fNinT, ↓q_fStr2_1, ↓q_fStr2_2, List.map_cons, List.map_nil, List.length_cons, List.length_nil, List.cons_append, List.nil_append, List.replicate_succ, List.replicate_zero, Option.map_some, Option.map_none, ite_true, ite_false, if_true, if_false, Nat.reduceAdd, Nat.reduceSub, Nat.reduceLeDiff, Bool.false_eq_true, Bool.not_true, Bool.not_false, Bool.true_and, Bool.and_true, Bool.false_and, Bool.and_false, true_and, and_true, Bool.bne_true, Bool.bne_false, Bool.false_bne, Bool.true_bne, bne_self_eq_false]
        obtain ⟨o0, o1⟩ := hr1 o ho
        have e : atI ((itL (rowsP n ps lane) i).map PyData.int) (1 + o) = some (.int ((itL (rowsP n ps lane) i).getD (1 + o).toNat 0)) := by
          have lt : (1 + o).toNat < (itL (rowsP n ps lane) i).length := by omega
          refine at_ints (by omega) ?_
          rw [List.getD_eq_getElem?_getD, List.getElem?_eq_getElem lt]
          rfl
        refine ⟨_, e, ?_⟩
        open_z
        exact hk3
      · have e : (row.map fun o => PyData.int (1 + (itL (rowsP n ps lane) i).getD (1 + o).toNat 0)) = (row.map fun o => 1 + (itL (rowsP n ps lane) i).getD (1 + o).toNat 0).map PyData.int := by rw [List.map_map]; rfl
        rw [e]
        open_z
        have h0 : ∀ z ∈ (row.map fun o => 1 + (itL (rowsP n ps lane) i).getD (1 + o).toNat 0), 0 ≤ z := by
          intro z hz
          obtain ⟨o, _, rfl⟩ := List.mem_map.mp hz
          have : 0 ≤ (itL (rowsP n ps lane) i).getD (1 + o).toNat 0 := by
            rw [List.getD_eq_getElem?_getD]
            cases q : (itL (rowsP n ps lane) i)[(1 + o).toNat]? with
            | none => simp
            | some z => exact (hbd z (List.mem_of_getElem? q)).1
          omega
        refine ⟨fun h => ?_, fun m hm h => ?_⟩
        · rw [h] at hk
          exact hk
        · rw [mxD_is h0 hm h]
          exact hk
    · refine hN _ ⟨some x, ?_⟩
      rw [show itL (rowsP n ps lane) (i + 1) = stepL (rowsP n ps lane) (itL (rowsP n ps lane) i) from rfl]
      unfold stepL
      rw [List.map_map]
      rfl
  · obtain ⟨t, rfl⟩ := hI
    open_z
    rw [List.length_map, List.length_map, upto_len]
    exact k
def longD (n : Nat) (ps : List (List Int)) (lane : Int) : Int := mxD (itL (rowsP n ps lane) n)
def boundD (n : Nat) (ps : List (List Int)) (lane : Int) : PyData := if longD n ps lane < n then .int (longD n ps lane) else .none
def boundO (c : Nat → Addr) (n : Nat) (ps : List (List Int)) (d : PyData) : Out := if inR d 0 ((n : Int) - 1) = true then .val (match d with | .int i => boundD n ps i | _ => .none) else .err ⟨c 0, some ("value", d)⟩
def XBound (c : Nat → Addr) : RX := fun ss Pd xp => ∃ (n : Nat) (ps : List (List Int)) (d : PyData), ss = [.d (ruleD ps), .d d] ∧ RuleOk n ps ∧ n ≤ 6 ∧ (boundO c n ps d).go Pd xp
theorem q_bound {f : Addr} {fd : FuncData} (F : Fun K "bound_of" "bound_of" sDBoundOf f fd) (T : Blt mg) (S : Ers P w K mg base c) (ccheck_lane : CalX P w K mg base 4 "check_lane" ["rule", "value"] (spX 2 (XCheck c))) (crun_lengths : Cal P w K mg base 8 "run_lengths" ["rule", "lane"] (spQ 2 RRun)) : FnOk P w K mg base (L2.CX P w) 9 f fd ["rule", "lane"] (spX 2 (XBound c)) := by
  refine okX F scDBoundOf fun cdv A outer s H E hr => ⟨_, _, (pss_cons (ps_expr (pe_calX ccheck_lane (hr.mono (by decide)) (takes_of rfl rfl rfl rfl) rfl (pa_cons (pv 0) (pa_cons (pv 1) pa_nil))))
    (pss_cons (ps_set (i := 2) scDBoundOf.nd rfl (Or.inl rfl) (pe_callB (k_maxX (K := K) rfl rfl) rfl T.max bt_max (pa_cons (pe_cal crun_lengths (hr.mono (by decide)) rfl (pa_cons (pv 0) (pa_cons (pv 1) pa_nil))) pa_nil)))
    (pss_one (ps_ret (pe_ifExp (pt_cmpR op_lt (pv 2) (pe_op op_sub (pe_callB (k_lenX (K := K) rfl) rfl T.len bt_len (pa_cons (pv 0) pa_nil)) pe_int) (nomark _)) (pv 2) pe_non))))), inferInstance, fun ss Pd xp hl hR => ?_⟩
  obtain ⟨n, ps, d, rfl, hR, n6, k⟩ := hR
  simp only [List.map_cons, List.map_nil, List.length_cons, List.length_nil, List.cons_append, List.nil_append, List.replicate_succ, List.replicate_zero, Nat.reduceAdd, Nat.reduceSub]; open_z
  have lps : ps.length = n + 1 := hR.2.1
  have el : (((ps.map prefD).length : Int) - 2) = (n : Int) - 1 := by rw [List.length_map]; omega
  refine ⟨ps.map prefD, d, rfl, ?_⟩
  rw [el]
  unfold boundO at k
  cases h : inR d 0 ((n : Int) - 1) with
  | false =>
    simp only [h, Bool.false_eq_true, if_false] at k ⊢
    exact k
  | true =>
    simp only [h, if_true] at k ⊢
    cases d with
    | int i =>
      have hi : 0 ≤ i ∧ i < n := by
        simp only [inR, Bool.and_eq_true, decide_eq_true_eq] at h
        omega
      refine ⟨n, ps, i, rfl, hR, n6, hi, ?_⟩
      open_z
      have ll := itL_len (rowsP n ps i) n
      have lr : (rowsP n ps i).length = n + 1 := by unfold rowsP; rw [List.length_map]; exact lps
      refine ⟨fun e => by rw [e] at ll; simp at ll; omega, fun m hm hle => ?_⟩
      have em : m = longD n ps i := mxD_is (fun x hx => (itL_bd _ _ x hx).1) hm hle
      subst em
      simp only [ruleD, ↓wSeq, ↓wNext, ↓wIfS, ↓wRet, ↓wRetN, ↓wAsg, ↓wDrop, ↓wOp, ↓wUn, ↓wC, ↓wTy, ↓wRef, ↓wB, ↓wAnd, ↓wOr, ↓wNot, ↓wYes, ↓wAndV, ↓wOrV, ↓wNotV, ↓wIf, ↓wChain, ↓wNil, ↓wCons, ↓wTup, ↓wLst, ↓wNoPart, ↓wPart, ↓wSl, ↓wCB, ↓wIt, ↓wRng1, ↓wRng2, ↓wCall, ↓wCallB, ↓wfLst, ↓wfLstOf, ↓wOfF, ↓wForS, ↓wIxm, ↓wRev, ↓wDnew, ↓wRg1, ↓wRg2, ↓wTupRg, ↓wfLstRg, ↓wSeqX, ↓wIfX, ↓wDropX, ↓wRetX, ↓wAsgX, ↓wForX, ↓wCallX, ↓wCallXS, ↓wCall0, ↓wCallS0, ↓wRz1, ↓wRz0, ↓wIfXE, ↓wDispI, ↓wCnt, ↓wXf, ↓wClsT, ↓wgNil, ↓asDs_nil, ↓asDs_cons, ↓asDs_map, ↓asIs_ints, ↓k_var, ↓k_varB, ↓getK_s, ↓getK_d, ↓getK_o, ↓getK_t, ↓getK_r, ↓getB_s, ↓getB_d, ↓getB_o, ↓getB_t, ↓getB_r, ↓getB_w, ↓getO_s, ↓getO_w, ↓setK_s, ↓setK_0, ↓wipeK_n, ↓wipeK_c, ↓k_name, ↓k_lc, ↓k_aug, ↓k_own, ↓k_app, ↓k_rel, ↓k_relX, ↓k_par, ↓k_par3, ↓k_par01, ↓k_par11, ↓k_put, ↓k_appPop, ↓k_try, ↓k_rem, ↓k_lcW, ↓wForW, ↓wForWX, ↓wEnum, ↓rowsD, ↓wStar, ↓wLenSet, ↓wPick, ↓wRun, ↓ite_tt, ↓ite_ff, ↓getB_l, ↓getO2_s, ↓getO2_w, ↓dropK_n, ↓dropK_c, ↓dl1_n, ↓dl1_d, ↓dl1_o, ↓dl1_t, ↓dl1_r, ↓dl1_w, ↓dl1_w2, ↓dl1_l, ↓setAllK_c, ↓setAllK_n, ↓freeK_s, ↓freeK_n, ↓freeK_d, ↓k_ix2, ↓k_app2, ↓k_put2, ↓k_forO, ↓k_parN, ↓k_wpF, ↓k_wpF2, ↓wpE, ↓wfSl, ↓wf2Nil, ↓wGPlain, ↓wG0, ↓wGThen, ↓wGIf, ↓wGYield, ↓wGForS, ↓wLstG, ↓wEnumS, ↓wM1, ↓fCntS, ↓fJoin, ↓fSplit, ↓wRevS, ↓asTs_map, ↓k_tryE, ↓wOpX, ↓asDs_app, ↓fIntS, ↓fInT, ↓wFld, ↓wPropQ, ↓wPropX, ↓wInQ, ↓wIxQ, ↓wMake, ↓wMake0, ↓wEqQ, ↓k_callIQ, ↓wRevT, ↓nE, ↓nT, ↓nA, ↓nI, ↓nOp, ↓nUn, ↓nCons, ↓nTup, ↓nLst, ↓nCB, ↓nB, ↓nAnd, ↓nOr, ↓nNot, ↓nIf, ↓nO, ↓nPart, ↓nIt, ↓nRng1, ↓nRng2, ↓k_nLc, ↓nCall, ↓nS, ↓nSeq, ↓nDrop, ↓nRet, ↓nIfS, ↓nAsg, ↓k_nPar, ↓k_nPar3, ↓k_nParN, ↓wCKw, ↓q_fMaxD, ↓ncomp_lift, ↓nCat, ↓nTimes, ↓k_nFlc, ↓asL2_l, ↓nForS, ↓k_nApp, ↓k_nAppPop, ↓k_nPut, ↓k_nOwn, ↓k_nRel, ↓k_nOpen, ↓nF, ↓nSl, ↓q_fI_1, ↓q_fI0_1, ↓q_fAdd_1, ↓q_fAdd_2, ↓q_fAdd_3, ↓q_fAdd_4, ↓q_fEq_1, ↓q_fNe_1, ↓q_fIn_1, ↓q_fIn_2, ↓q_fIx_1, ↓q_fIx_2, ↓q_fIx_3, ↓q_fIsN_1, ↓q_fU_1, ↓q_asB_1, ↓q_asI_1, ↓q_fSl_1, ↓q_fSl_2, ↓q_fSl_3, ↓q_fLen_1, ↓q_fLen_2, ↓q_fLen_3, ↓q_fLen_4, ↓q_fIsi_1, ↓q_itD_1, ↓q_itD_2, ↓q_itD_3, ↓q_asR1_1, ↓q_asR2_1, ↓q_wgCons_1, ↓q_wgCons_2, ↓q_wgTup_1, ↓q_as2_1, ↓q_as3_1, ↓q_fLstOf_1, ↓q_fLstOf_2, ↓q_fTupOf_1, ↓q_fTupOf_2, ↓q_asD_1, ↓q_fMul_1, ↓q_fMul_2, ↓q_fMul_3, ↓q_fInt_1, ↓q_fInt_2, ↓q_fRepr_1, ↓q_fMin_1, ↓q_fMin_2, ↓q_fAll_1, ↓q_asSeq_1, ↓q_asSeq_2, ↓q_asL_1, ↓q_fNil_1, ↓q_fNil_2, ↓q_fEqS_1, ↓q_fNeS_1, ↓q_asTu_1, ↓q_fSort_1, ↓q_fSort_2, ↓q_fAny_1, ↓q_fMax_1, ↓q_fMax_2, ↓q_fSum_1, ↓q_fStr_1, ↓q_asS_1, ↓q_asS1_1, ↓k_ext, ↓q_exL, ↓q_fMulS, ↓q_fMulT, ↓q_fSortT, ↓fNinT, ↓q_fStr2_1, ↓q_fStr2_2, List.map_cons, List.map_nil, List.length_cons, List.length_nil, List.cons_append, List.nil_append, List.replicate_succ, List.replicate_zero, Option.map_some, Option.map_none, ite_true, ite_false, if_true, if_false, Nat.reduceAdd, Nat.reduceSub, Nat.reduceLeDiff, Bool.false_eq_true, Bool.not_true, Bool.not_false, Bool.true_and, Bool.and_true, Bool.false_and, Bool.and_false, true_and, and_true, Bool.bne_true, Bool.bne_false, Bool.false_bne, Bool.true_bne, bne_self_eq_false]
      have e3 : decide (longD n ps i < ((ps.map prefD).length : Int) - 1) = decide (longD n ps i < n) := by rw [List.length_map, lps]; congr 2; omega
      rw [e3]
      have k : Pd (.d (boundD n ps i)) := k
      unfold boundD at k
      by_cases q : longD n ps i < n
      · rw [if_pos q] at k
        rw [decide_eq_true q]
        exact k
      · rw [if_neg q] at k
        rw [decide_eq_false q]
        exact k
    | _ => cases h
end
end Lr

namespace Lr
open PySem L2
abbrev sDLawArrows : Stmt := topS 30
abbrev nDLawArrows : List Str := ["_law_rule_here", "_law_lane", "_law_preference"]
theorem scDLawArrows : FnScope nDLawArrows ["_law_rule_here", "_law_lane"] (defScope sDLawArrows) :=
  ⟨rfl, rfl, rfl, by decide +kernel, rfl, by decide +kernel, by decide +kernel⟩
abbrev sDLawLongest : Stmt := topS 31
abbrev nDLawLongest : List Str := ["_law_rows", "_law_many", "_law_found", "_law_turn", "_law_row", "_law_lane"]
theorem scDLawLongest : FnScope nDLawLongest ["_law_rows", "_law_many"] (defScope sDLawLongest) :=
  ⟨rfl, rfl, rfl, by decide +kernel, rfl, by decide +kernel, by decide +kernel⟩
abbrev sDLawIsInt : Stmt := topS 33
abbrev nDLawIsInt : List Str := ["_law_value", "_law_low", "_law_high"]
theorem scDLawIsInt : FnScope nDLawIsInt ["_law_value", "_law_low", "_law_high"] (defScope sDLawIsInt) :=
  ⟨rfl, rfl, rfl, by decide +kernel, rfl, by decide +kernel, by decide +kernel⟩
abbrev sDLawError : Stmt := topS 34
abbrev nDLawError : List Str := ["_law_error_here", "_law_flags"]
theorem scDLawError : FnScope nDLawError ["_law_error_here"] (defScope sDLawError) :=
  ⟨rfl, rfl, rfl, by decide +kernel, rfl, by decide +kernel, by decide +kernel⟩
section
variable {P : Program} {w : World} {K : PySem.W.Frag} {mg : Str → Option Value} {base : Heap} {c : Nat → Addr}
theorem first_int {pn : List Int} {z : Int} (h : z ∈ pn) : firstAt (pn.map PyData.int) (.int z) = some (pn.idxOf z) := by
  unfold firstAt
  induction pn with
  | nil => cases h
  | cons x r ih =>
    rw [List.map_cons, List.findIdx?_cons, eqv_int, List.idxOf_cons]
    by_cases e : x = z
    · subst e; simp
    · rcases List.mem_cons.mp h with q | q
      · exact absurd q.symm e
      · rw [ih q]
        simp [beq_false_of_ne e]
theorem filt_take : ∀ {pn : List Int} (k : Nat), pn.Nodup → pn.filter (fun o => decide (pn.idxOf o < k)) = pn.take k
  | [], k, _ => by simp
  | y :: r, 0, _ => by simp
  | y :: r, k + 1, h => by
    have hy := (List.nodup_cons.mp h).1
    have e0 : decide ((y :: r).idxOf y < k + 1) = true := by simp
    rw [List.filter_cons, if_pos e0, List.take_succ_cons, ← filt_take k (List.nodup_cons.mp h).2]
    congr 1
    refine List.filter_congr fun o ho => ?_
    have ne : ¬ y = o := fun e => hy (e ▸ ho)
    rw [List.idxOf_cons]
    simp [beq_false_of_ne ne]
theorem bef_take {n : Nat} {pn ys : List Int} {lane : Int} (hp : pn.Perm (upto n)) (h1 : ys.Perm (pn.take (pn.idxOf lane))) (h2 : ys.Pairwise (· ≤ ·)) : ys = befP n pn lane := by
  refine le_uniq ?_ h2 ?_
  · refine h1.trans ?_
    rw [← filt_take _ (hp.nodup_iff.mpr (upto_nodup n))]
    exact hp.filter _
  · refine List.Pairwise.filter _ ?_
    unfold upto
    rw [List.pairwise_map]
    exact List.pairwise_lt_range.imp fun h => by exact Int.ofNat_le.mpr (Nat.le_of_lt h)
def RArrows : RR := fun ss Pd => ∃ (n : Nat) (ps : List (List Int)) (lane : Int), ss = [.d (ruleD ps), .d (.int lane)] ∧ RuleOk n ps ∧ n ≤ 6 ∧ (0 ≤ lane ∧ lane < n) ∧ Pd (.d (.list ((rowsP n ps lane).map rowD)))
theorem q_arrows {f : Addr} {fd : FuncData} (F : Fun K "_law_arrows" "_law_arrows" sDLawArrows f fd) (T : Blt mg) : FnOk P w K mg base CX0 1 f fd ["_law_rule_here", "_law_lane"] (spQ 2 RArrows) := by
  refine okQ F scDLawArrows fun cdv A outer s H E hr => ⟨_, _, (pss_one (ps_ret (lcQ (vs := [2]) rfl (pe_lc (own := [("_law_preference", 2)]) (g := gName 2)  (by rfl) scDLawArrows.nd (ki_any (K := K) rfl (pv 0)) (blkOk_by (own := [("_law_preference", 2)]) (N := nDLawArrows) (sc := defScope sDLawArrows) (by decide +kernel)) (fun _ _ _ _ _ => (pg_name (i := 2) scDLawArrows.nd rfl (Or.inl rfl))) (fun _ _ _ _ _ => pts_nil) (fun _ _ _ _ _ => (pe_callB (k_sortX (K := K) rfl) rfl T.sorted bt_sorted (pa_cons (pe_slice (sl_X (K := K) rfl) (pv 2) po_none (po_some (pe_ixm (K := K) rfl (Room.u65 hr) (pv 2) (pv 1)))) pa_nil))))))), inferInstance, fun ss Pd hl hR => ?_⟩
  obtain ⟨n, ps, lane, rfl, hR, n6, hlane, k⟩ := hR
  simp only [List.map_cons, List.map_nil, List.length_cons, List.length_nil, List.cons_append, List.nil_append, List.replicate_succ, List.replicate_zero, Nat.reduceAdd, Nat.reduceSub]; open_z
  simp only [ruleD, ↓wSeq, ↓wNext, ↓wIfS, ↓wRet, ↓wRetN, ↓wAsg, ↓wDrop, ↓wOp, ↓wUn, ↓wC, ↓wTy, ↓wRef, ↓wB, ↓wAnd, ↓wOr, ↓wNot, ↓wYes, ↓wAndV, ↓wOrV, ↓wNotV, ↓wIf, ↓wChain, ↓wNil, ↓wCons, ↓wTup, ↓wLst, ↓wNoPart, ↓wPart, ↓wSl, ↓wCB, ↓wIt, ↓wRng1, ↓wRng2, ↓wCall, ↓wCallB, ↓wfLst, ↓wfLstOf, ↓wOfF, ↓wForS, ↓wIxm, ↓wRev, ↓wDnew, ↓wRg1, ↓wRg2, ↓wTupRg, ↓wfLstRg, ↓wSeqX, ↓wIfX, ↓wDropX, ↓wRetX, ↓wAsgX, ↓wForX, ↓wCallX, ↓wCallXS, ↓wCall0, ↓wCallS0, ↓wRz1, ↓wRz0, ↓wIfXE, ↓wDispI, ↓wCnt, ↓wXf, ↓wClsT, ↓wgNil, ↓asDs_nil, ↓asDs_cons, ↓asDs_map, ↓asIs_ints, ↓k_var, ↓k_varB, ↓getK_s, ↓getK_d, ↓getK_o, ↓getK_t, ↓getK_r, ↓getB_s, ↓getB_d, ↓getB_o, ↓getB_t, ↓getB_r, ↓getB_w, ↓getO_s, ↓getO_w, ↓setK_s, ↓setK_0, ↓wipeK_n, ↓wipeK_c, ↓k_name, ↓k_lc, ↓k_aug, ↓k_own, ↓k_app, ↓k_rel, ↓k_relX, ↓k_par, ↓k_par3, ↓k_par01, ↓k_par11, ↓k_put, ↓k_appPop, ↓k_try, ↓k_rem, ↓k_lcW, ↓wForW, ↓wForWX, ↓wEnum, ↓rowsD, ↓wStar, ↓wLenSet, ↓wPick, ↓wRun, ↓ite_tt, ↓ite_ff, ↓getB_l, ↓getO2_s, ↓getO2_w, ↓dropK_n, ↓dropK_c, ↓dl1_n, ↓dl1_d, ↓dl1_o, ↓dl1_t, ↓dl1_r, ↓dl1_w, ↓dl1_w2, ↓dl1_l, ↓setAllK_c, ↓setAllK_n, ↓freeK_s, ↓freeK_n, ↓freeK_d, ↓k_ix2, ↓k_app2, ↓k_put2, ↓k_forO, ↓k_parN, ↓k_wpF, ↓k_wpF2, ↓wpE, ↓wfSl, ↓wf2Nil, ↓wGPlain, ↓wG0, ↓wGThen, ↓wGIf, ↓wGYield, ↓wGForS, ↓wLstG, ↓wEnumS, ↓wM1, ↓fCntS, ↓fJoin, ↓fSplit, ↓wRevS, ↓asTs_map, ↓k_tryE, ↓wOpX, ↓asDs_app, ↓fIntS, ↓fInT, ↓wFld, ↓wPropQ, ↓wPropX, ↓wInQ, ↓wIxQ, ↓wMake, ↓wMake0, ↓wEqQ, ↓k_callIQ, ↓wRevT, ↓nE, ↓nT, ↓nA, ↓nI, ↓nOp, ↓nUn, ↓nCons, ↓nTup, ↓nLst, ↓nCB, ↓nB, ↓nAnd, ↓nOr, ↓nNot, ↓nIf, ↓nO, ↓nPart, ↓nIt, ↓nRng1, ↓nRng2, ↓k_nLc, ↓nCall, ↓nS, ↓nSeq, ↓nDrop, ↓nRet, ↓nIfS, ↓nAsg, ↓k_nPar, ↓k_nPar3, ↓k_nParN, ↓wCKw, ↓q_fMaxD, ↓ncomp_lift, ↓nCat, ↓nTimes, ↓k_nFlc, ↓asL2_l, ↓nForS, ↓k_nApp, ↓k_nAppPop, ↓k_nPut, ↓k_nOwn, ↓k_nRel, ↓k_nOpen, ↓nF, ↓nSl, ↓q_fI_1, ↓q_fI0_1, ↓q_fAdd_1, ↓q_fAdd_2, ↓q_fAdd_3, ↓q_fAdd_4, ↓q_fEq_1, ↓q_fNe_1, ↓q_fIn_1, ↓q_fIn_2, ↓q_fIx_1, ↓q_fIx_2, ↓q_fIx_3, ↓q_fIsN_1, ↓q_fU_1, ↓q_asB_1, ↓q_asI_1, ↓q_fSl_1, ↓q_fSl_2, ↓q_fSl_3, ↓q_fLen_1, ↓q_fLen_2, ↓q_fLen_3, ↓q_fLen_4, ↓q_fIsi_1, ↓q_itD_1, ↓q_itD_2, ↓q_itD_3, ↓q_asR1_1, ↓q_asR2_1, ↓q_wgCons_1, ↓q_wgCons_2, ↓q_wgTup_1, ↓q_as2_1, ↓q_as3_1, ↓q_fLstOf_1, ↓q_fLstOf_2, ↓q_fTupOf_1, ↓q_fTupOf_2, ↓q_asD_1, ↓q_fMul_1, ↓q_fMul_2, ↓q_fMul_3, ↓q_fInt_1, ↓q_fInt_2, ↓q_fRepr_1, ↓q_fMin_1, ↓q_fMin_2, ↓q_fAll_1, ↓q_asSeq_1, ↓q_asSeq_2, ↓q_asL_1, ↓q_fNil_1, ↓q_fNil_2, ↓q_fEqS_1, ↓q_fNeS_1, ↓q_asTu_1, ↓q_fSort_1, ↓q_fSort_2, ↓q_fAny_1, ↓q_fMax_1, ↓q_fMax_2, ↓q_fSum_1, ↓q_fStr_1, ↓q_asS_1, ↓q_asS1_1, ↓k_ext, ↓q_exL, ↓q_fMulS, ↓q_fMulT, ↓q_fSortT, ↓fNinT, ↓q_fStr2_1, ↓q_fStr2_2, List.map_cons, List.map_nil, List.length_cons, List.length_nil, List.cons_append, List.nil_append, List.replicate_succ, List.replicate_zero, Option.map_some, Option.map_none, ite_true, ite_false, if_true, if_false, Nat.reduceAdd, Nat.reduceSub, Nat.reduceLeDiff, Bool.false_eq_true, Bool.not_true, Bool.not_false, Bool.true_and, Bool.and_true, Bool.false_and, Bool.and_false, true_and, and_true, Bool.bne_true, Bool.bne_false, Bool.false_bne, Bool.true_bne, bne_self_eq_false]
  refine ⟨by rw [List.length_map, List.length_map]; have := hR.2.1; omega, ?_⟩
  refine comp_gm prefD (fun pn => rowD (befP n pn lane)) (fun pn hpn K2 hk => ?_) ?_
  · have hp := hR.2.2 pn hpn
    have hx : lane ∈ pn := hp.mem_iff.mpr (mem_upto.mpr hlane)
    have hnd : pn.Nodup := hp.nodup_iff.mpr (upto_nodup n)
    have hlen : pn.length = n := by rw [hp.length_eq, upto_len]
    simp only [wStep, prefD, ↓wSeq, ↓wNext, ↓wIfS, ↓wRet, ↓wRetN, ↓wAsg, ↓wDrop, ↓wOp, ↓wUn, ↓wC, ↓wTy, ↓wRef, ↓wB, ↓wAnd, ↓wOr, ↓wNot, ↓wYes, ↓wAndV, ↓wOrV, ↓wNotV, ↓wIf, ↓wChain, ↓wNil, ↓wCons, ↓wTup, ↓wLst, ↓wNoPart, ↓wPart, ↓wSl, ↓wCB, ↓wIt, ↓wRng1, ↓wRng2, ↓wCall, ↓wCallB, ↓wfLst, ↓wfLstOf, ↓wOfF, ↓wForS, ↓wIxm, ↓wRev, ↓wDnew, ↓wRg1, ↓wRg2, ↓wTupRg, ↓wfLstRg, ↓wSeqX, ↓wIfX, ↓wDropX, ↓wRetX, ↓wAsgX, ↓wForX, ↓wCallX, ↓wCallXS, ↓wCall0, ↓wCallS0, ↓wRz1, ↓wRz0, ↓wIfXE, ↓wDispI, ↓wCnt, ↓wXf, ↓wClsT, ↓wgNil, ↓asDs_nil, ↓asDs_cons, ↓asDs_map, ↓asIs_ints, ↓k_var, ↓k_varB, ↓getK_s, ↓getK_d, ↓getK_o, ↓getK_t, ↓getK_r, ↓getB_s, ↓getB_d, ↓getB_o, ↓getB_t, ↓getB_r, ↓getB_w, ↓getO_s, ↓getO_w, ↓setK_s, ↓setK_0, ↓wipeK_n, ↓wipeK_c, ↓k_name, ↓k_lc, ↓k_aug, ↓k_own, ↓k_app, ↓k_rel, ↓k_relX, ↓k_par, ↓k_par3, ↓k_par01, ↓k_par11, ↓k_put, ↓k_appPop, ↓k_try, ↓k_rem, ↓k_lcW, ↓wForW, ↓wForWX, ↓wEnum, ↓rowsD, ↓wStar, ↓wLenSet, ↓wPick, ↓wRun, ↓ite_tt, ↓ite_ff, ↓getB_l, ↓getO2_s, ↓getO2_w, ↓dropK_n, ↓dropK_c, ↓dl1_n, ↓dl1_d, ↓dl1_o, ↓dl1_t, ↓dl1_r, ↓dl1_w, ↓dl1_w2, ↓dl1_l, ↓setAllK_c, ↓setAllK_n, ↓freeK_s, ↓freeK_n, ↓freeK_d, ↓k_ix2, ↓k_app2, ↓k_put2, ↓k_forO, ↓k_parN, ↓k_wpF, ↓k_wpF2, ↓wpE, ↓wfSl, ↓wf2Nil, ↓wGPlain, ↓wG0, ↓wGThen, ↓wGIf, ↓wGYield, ↓wGForS, ↓wLstG, ↓wEnumS, ↓wM1, ↓fCntS, ↓fJoin, ↓fSplit, ↓wRevS, ↓asTs_map, ↓k_tryE, ↓wOpX, ↓asDs_app, ↓fIntS, ↓fInT, ↓wFld, ↓wPropQ, ↓wPropX, ↓wInQ, ↓wIxQ, ↓wMake, ↓wMake0, ↓wEqQ, ↓k_callIQ, ↓wRevT, ↓nE, ↓nT, ↓nA, ↓nI, ↓nOp, ↓nUn, ↓nCons, ↓nTup, ↓nLst, ↓nCB, ↓nB, ↓nAnd, ↓nOr, ↓nNot, ↓nIf, ↓nO, ↓nPart, ↓nIt, ↓nRng1, ↓nRng2, ↓k_nLc, ↓nCall, ↓nS, ↓nSeq, ↓nDrop, ↓nRet, ↓nIfS, ↓nAsg, ↓k_nPar, ↓k_nPar3, ↓k_nParN, ↓wCKw, ↓q_fMaxD, ↓ncomp_lift, ↓nCat, ↓nTimes, ↓k_nFlc, ↓asL2_l, ↓nForS, ↓k_nApp, ↓k_nAppPop, ↓k_nPut, ↓k_nOwn, ↓k_nRel, ↓k_nOpen, ↓nF, ↓nSl, ↓q_fI_1, ↓q_fI0_1, ↓q_fAdd_1, ↓q_fAdd_2, ↓q_fAdd_3, ↓q_fAdd_4, ↓q_fEq_1, ↓q_fNe_1, ↓q_fIn_1, ↓q_fIn_2, ↓q_fIx_1, ↓q_fIx_2, ↓q_fIx_3, ↓q_fIsN_1, ↓q_fU_1, ↓q_asB_1, ↓q_asI_1, ↓q_fSl_1, ↓q_fSl_2, ↓q_fSl_3, ↓q_fLen_1, ↓q_fLen_2, ↓q_fLen_3, ↓q_fLen_4, ↓q_fIsi_1, ↓q_itD_1, ↓q_itD_2, ↓q_itD_3, ↓q_asR1_1, ↓q_asR2_1, ↓q_wgCons_1, ↓q_wgCons_2, ↓q_wgTup_1, ↓q_as2_1, ↓q_as3_1, ↓q_fLstOf_1, ↓q_fLstOf_2, ↓q_fTupOf_1, ↓q_fTupOf_2, ↓q_asD_1, ↓q_fMul_1, ↓q_fMul_2, ↓q_fMul_3, ↓q_fInt_1, ↓q_fInt_2, ↓q_fRepr_1, ↓q_fMin_1, ↓q_fMin_2, ↓q_fAll_1, ↓q_asSeq_1, ↓q_asSeq_2, ↓q_asL_1, ↓q_fNil_1, ↓q_fNil_2, ↓q_fEqS_1, ↓q_fNeS_1, ↓q_asTu_1, ↓q_fSort_1, ↓q_fSort_2, ↓q_fAny_1, ↓q_fMax_1, ↓q_fMax_2, ↓q_fSum_1, ↓q_fStr_1, ↓q_asS_1, ↓q_asS1_1, ↓k_ext, ↓q_exL, ↓q_fMulS, ↓q_fMulT, ↓q_fSortT, ↓fNinT, ↓q_fStr2_1, ↓q_fStr2_2, List.map_cons, List.map_nil, List.length_cons, List.length_nil, List.cons_append, List.nil_append, List.replicate_succ, List.replicate_zero, Option.map_some, Option.map_none, ite_true, ite_false, if_true, if_false, Nat.reduceAdd, Nat.reduceSub, Nat.reduceLeDiff, Bool.false_eq_true, Bool.not_true, Bool.not_false, Bool.true_and, Bool.and_true, Bool.false_and, Bool.and_false, true_and, and_true, Bool.bne_true, Bool.bne_false, Bool.false_bne, Bool.true_bne, bne_self_eq_false]
    refine ⟨shp_int _, shp_intsT _, _, first_int hx, ?_⟩
    have hj : pn.idxOf lane ≤ pn.length := Nat.le_of_lt (List.idxOf_lt_length_iff.mpr hx)
    have e : cutD (pn.map PyData.int) none (some ((pn.idxOf lane : Nat) : Int)) = (pn.take (pn.idxOf lane)).map PyData.int := by
      rw [cutD_to (by omega), Int.toNat_natCast, List.map_take]
    rw [e, asIs_ints]
    refine ⟨by rw [List.length_take]; omega, fun ys h1 h2 => ?_⟩
    rw [bef_take hp h1 h2]
    exact hk
  · have e : ps.map (fun pn => rowD (befP n pn lane)) = (rowsP n ps lane).map rowD := by unfold rowsP; rw [List.map_map]; rfl
    rw [e]
    exact k
def RLong : RR := fun ss Pd => ∃ (n : Nat) (ps : List (List Int)) (lane : Int), ss = [.d (.list ((rowsP n ps lane).map rowD)), .d (.int n)] ∧ RuleOk n ps ∧ n ≤ 6 ∧ (0 ≤ lane ∧ lane < n) ∧ Pd (.d (if longD n ps lane < n then .list ((itL (rowsP n ps lane) n).map .int) else .none))
theorem q_longest {f : Addr} {fd : FuncData} (F : Fun K "_law_longest" "_law_longest" sDLawLongest f fd) (T : Blt mg) : FnOk P w K mg base CX0 1 f fd ["_law_rows", "_law_many"] (spQ 2 RLong) := by
  refine okQ F scDLawLongest fun cdv A outer s H E hr => ⟨_, _, (pss_cons (ps_set (i := 2) scDLawLongest.nd rfl (Or.inr rfl) (pe_op (ko_mul (K := K) rfl) (pe_lst (pa_cons pe_int pa_nil)) (pe_callB (k_lenX (K := K) rfl) rfl T.len bt_len (pa_cons (pv 0) pa_nil))))
    (pss_cons (ps_for PassesOwn.never rfl (pi_range1 rfl T.range (pa_cons (pv 1) pa_nil)) (pg_name (i := 3) scDLawLongest.nd rfl (Or.inl rfl)) (pss_one (ps_set (i := 2) scDLawLongest.nd rfl (Or.inr rfl) (lcQ (vs := [4]) rfl (pe_lc (own := [("_law_row", 4)]) (g := gName 4)  (by rfl) scDLawLongest.nd (ki_any (K := K) rfl (pv 0)) (blkOk_by (own := [("_law_row", 4)]) (N := nDLawLongest) (sc := defScope sDLawLongest) (by decide +kernel)) (fun _ _ _ _ _ => (pg_name (i := 4) scDLawLongest.nd rfl (Or.inl rfl))) (fun _ _ _ _ _ => pts_nil) (fun _ _ _ _ _ => (pe_callB (k_maxX (K := K) rfl rfl) rfl T.max bt_max (pa_cons (pe_op (ko_add (K := K) rfl) (pe_lst (pa_cons pe_int pa_nil)) (lcQ (vs := [5]) rfl (pe_lc (own := [("_law_lane", 5)]) (g := gName 5)  (by rfl) scDLawLongest.nd (ki_any (K := K) rfl (pv 4)) (blkOk_by (own := [("_law_lane", 5)]) (N := nDLawLongest) (by kernel_rfl)) (fun _ _ _ _ _ => (pg_name (i := 5) scDLawLongest.nd rfl (Or.inl rfl))) (fun _ _ _ _ _ => pts_nil) (fun _ _ _ _ _ => (pe_op (ko_add (K := K) rfl) pe_int (pe_ix (kx_X (K := K) rfl) (pv 2) (pe_op (ko_add (K := K) rfl) pe_int (pv 5)) (fun _ _ => rfl))))))) pa_nil))))))))
    (pss_one (ps_ret (pe_ifExp (pt_cmpR op_ge (pe_callB (k_maxX (K := K) rfl rfl) rfl T.max bt_max (pa_cons (pv 2) pa_nil)) (pv 1) (nomark _)) pe_non (pv 2)))))), inferInstance, fun ss Pd hl hR => ?_⟩
  obtain ⟨n, ps, lane, rfl, hR, n6, hlane, k⟩ := hR
  simp only [List.map_cons, List.map_nil, List.length_cons, List.length_nil, List.cons_append, List.nil_append, List.replicate_succ, List.replicate_zero, Nat.reduceAdd, Nat.reduceSub]; open_z
  have lps : ps.length = n + 1 := hR.2.1
  have lr : (rowsP n ps lane).length = n + 1 := by unfold rowsP; rw [List.length_map]; exact lps
  rw [Int.toNat_natCast, Int.toNat_natCast, List.length_map, lr]
  have e0 : (List.replicate (n + 1) [PyData.int 0]).flatten = (itL (rowsP n ps lane) 0).map PyData.int := by
    unfold itL
    rw [lr, List.map_replicate]
    exact List.flatten_replicate_singleton
  rw [e0]
  refine ⟨by omega, by omega, by omega, by omega, by omega, ?_⟩
  refine for_inv (fun i ρ => ∃ t, ρ = [some (.d (.list ((rowsP n ps lane).map rowD))), some (.d (.int n)), some (.d (.list ((itL (rowsP n ps lane) i).map .int))), t, none, none]) ⟨none, rfl⟩ (fun i x ρ' hx hI N hN => ?_) (fun ρ' hI => ?_)
  · obtain ⟨t, rfl⟩ := hI
    open_z
    refine ⟨by rw [List.length_map, List.length_map, lr]; omega, ?_⟩
    have ll := itL_len (rowsP n ps lane) i
    have hil : i < n := by
      have := (List.getElem?_eq_some_iff.mp hx).1
      rw [rgD_upto, List.length_map, List.length_map, upto_len] at this
      exact this
    have hbd := itL_bd (rowsP n ps lane) i
    refine comp_gm rowD (fun row => .int (mxD (row.map fun o => 1 + (itL (rowsP n ps lane) i).getD (1 + o).toNat 0))) (fun row hrow K2 hk => ?_) ?_
    · obtain ⟨hr1, hr2⟩ := mem_rows hrow
      simp only [wStep, rowD, ↓wSeq, ↓wNext, ↓wIfS, ↓wRet, ↓wRetN, ↓wAsg, ↓wDrop, ↓wOp, ↓wUn, ↓wC, ↓wTy, ↓wRef, ↓wB, ↓wAnd, ↓wOr, ↓wNot, ↓wYes, ↓wAndV, ↓wOrV, ↓wNotV, ↓wIf, ↓wChain, ↓wNil, ↓wCons, ↓wTup, ↓wLst, ↓wNoPart, ↓wPart, ↓wSl, ↓wCB, ↓wIt, ↓wRng1, ↓wRng2, ↓wCall, ↓wCallB, ↓wfLst, ↓wfLstOf, ↓wOfF, ↓wForS, ↓wIxm, ↓wRev, ↓wDnew, ↓wRg1, ↓wRg2, ↓wTupRg, ↓wfLstRg, ↓wSeqX, ↓wIfX, ↓wDropX, ↓wRetX, ↓wAsgX, ↓wForX, ↓wCallX, ↓wCallXS, ↓wCall0, ↓wCallS0, ↓wRz1, ↓wRz0, ↓wIfXE, ↓wDispI, ↓wCnt, ↓wXf, ↓wClsT, ↓wgNil, ↓asDs_nil, ↓asDs_cons, ↓asDs_map, ↓asIs_ints, ↓k_var, ↓k_varB, ↓getK_s, ↓getK_d, ↓getK_o, ↓getK_t, ↓getK_r, ↓getB_s, ↓getB_d, ↓getB_o, ↓getB_t, ↓getB_r, ↓getB_w, ↓getO_s, ↓getO_w, ↓setK_s, ↓setK_0, ↓wipeK_n, ↓wipeK_c, ↓k_name, ↓k_lc, ↓k_aug, ↓k_own, ↓k_app, ↓k_rel, ↓k_relX, ↓k_par, ↓k_par3, ↓k_par01, ↓k_par11, ↓k_put, ↓k_appPop, ↓k_try, ↓k_rem, ↓k_lcW, ↓wForW, ↓wForWX, ↓wEnum, ↓rowsD, ↓wStar, ↓wLenSet, ↓wPick, ↓wRun, ↓ite_tt, ↓ite_ff, ↓getB_l, ↓getO2_s, ↓getO2_w, ↓dropK_n, ↓dropK_c, ↓dl1_n, ↓dl1_d, ↓dl1_o, ↓dl1_t, ↓dl1_r, ↓dl1_w, ↓dl1_w2, ↓dl1_l, ↓setAllK_c, ↓setAllK_n, ↓freeK_s, ↓freeK_n, ↓freeK_d, ↓k_ix2, ↓k_app2, ↓k_put2, ↓k_forO, ↓k_parN, ↓k_wpF, ↓k_wpF2, ↓wpE, ↓wfSl, ↓wf2Nil, ↓wGPlain, ↓wG0, ↓wGThen, ↓wGIf, ↓wGYield, ↓wGForS, ↓wLstG, ↓wEnumS, ↓wM1, ↓fCntS, ↓fJoin, ↓fSplit, ↓wRevS, ↓asTs_map, ↓k_tryE, ↓wOpX, ↓asDs_app, ↓fIntS, ↓fInT, ↓wFld, ↓wPropQ, ↓wPropX, ↓wInQ, ↓wIxQ, ↓wMake, ↓wMake0, ↓wEqQ, ↓k_callIQ, ↓wRevT, ↓nE, ↓nT, ↓nA, ↓nI, ↓nOp, ↓nUn, ↓nCons, ↓nTup, ↓nLst, ↓nCB, ↓nB, ↓nAnd, ↓nOr, ↓nNot, ↓nIf, ↓nO, ↓nPart, ↓nIt, ↓nRng1, ↓nRng2, ↓k_nLc, ↓nCall, ↓nS, ↓nSeq, ↓nDrop, ↓nRet, ↓nIfS, ↓nAsg, ↓k_nPar, ↓k_nPar3, ↓k_nParN, ↓wCKw, ↓q_fMaxD, ↓ncomp_lift, ↓nCat, ↓nTimes, ↓k_nFlc, ↓asL2_l, ↓nForS, ↓k_nApp, ↓k_nAppPop, ↓k_nPut, ↓k_nOwn, ↓k_nRel, ↓k_nOpen, ↓nF, ↓nSl, ↓q_fI_1, ↓q_fI0_1, ↓q_fAdd_1, ↓q_fAdd_2, ↓q_fAdd_3, ↓q_fAdd_4, ↓q_fEq_1, ↓q_fNe_1, ↓q_fIn_1, ↓q_fIn_2, ↓q_fIx_1, ↓q_fIx_2, ↓q_fIx_3, ↓q_fIsN_1, ↓q_fU_1, ↓q_asB_1, ↓q_asI_1, ↓q_fSl_1, ↓q_fSl_2, ↓q_fSl_3, ↓q_fLen_1, ↓q_fLen_2, ↓q_fLen_3, ↓q_fLen_4, ↓q_fIsi_1, ↓q_itD_1, ↓q_itD_2, ↓q_itD_3, ↓q_asR1_1, ↓q_asR2_1, ↓q_wgCons_1, ↓q_wgCons_2, ↓q_wgTup_1, ↓q_as2_1, ↓q_as3_1, ↓q_fLstOf_1, ↓q_fLstOf_2, ↓q_fTupOf_1, ↓q_fTupOf_2, ↓q_asD_1, ↓q_fMul_1, ↓q_fMul_2, ↓q_fMul_3, ↓q_fInt_1, ↓q_fInt_2, ↓q_fRepr_1, ↓q_fMin_1, ↓q_fMin_2, ↓q_fAll_1, ↓q_asSeq_1, ↓q_asSeq_2, ↓q_asL_1, ↓q_fNil_1, ↓q_fNil_2, ↓q_fEqS_1, ↓q_fNeS_1, ↓q_asTu_1, ↓q_fSort_1, ↓q_fSort_2, ↓q_fAny_1, ↓q_fMax_1, ↓q_fMax_2, ↓q_fSum_1, ↓q_fStr_1, ↓q_asS_1, ↓q_asS1_1, ↓k_ext, ↓q_exL, ↓q_fMulS, ↓q_fMulT, ↓q_fSortT, ↓fNinT, ↓q_fStr2_1, ↓q_fStr2_2, List.map_cons, List.map_nil, List.length_cons, List.length_nil, List.cons_append, List.nil_append, List.replicate_succ, List.replicate_zero, Option.map_some, Option.map_none, ite_true, ite_false, if_true, if_false, Nat.reduceAdd, Nat.reduceSub, Nat.reduceLeDiff, Bool.false_eq_true, Bool.not_true, Bool.not_false, Bool.true_and, Bool.and_true, Bool.false_and, Bool.and_false, true_and, and_true, Bool.bne_true, Bool.bne_false, Bool.false_bne, Bool.true_bne, bne_self_eq_false]
      refine ⟨by rw [List.length_map, List.length_map]; omega, ?_⟩
      refine comp_im (fun o => .int (1 + (itL (rowsP n ps lane) i).getD (1 + o).toNat 0)) (fun o ho K3 hk3 => ?_) ?_
      · simp only [wStep, ↓wSeq, ↓wNext, ↓wIfS, ↓wRet, ↓wRetN, ↓wAsg, ↓wDrop, ↓wOp, ↓wUn, ↓wC, ↓wTy, ↓wRef, ↓wB, ↓wAnd, ↓wOr, ↓wNot, ↓wYes, ↓wAndV, ↓wOrV, ↓wNotV, ↓wIf, ↓wChain, ↓wNil, ↓wCons, ↓wTup, ↓wLst, ↓wNoPart, ↓wPart, ↓wSl, ↓wCB, ↓wIt, ↓wRng1, ↓wRng2, ↓wCall, ↓wCallB, ↓wfLst, ↓wfLstOf, ↓wOfF, ↓wForS, ↓wIxm, ↓wRev, ↓wDnew, ↓wRg1, ↓wRg2, ↓wTupRg, ↓wfLstRg, ↓wSeqX, ↓wIfX, ↓wDropX, ↓wRetX, ↓wAsgX, ↓wForX, ↓wCallX, ↓wCallXS, ↓wCall0, ↓wCallS0, ↓wRz1, ↓wRz0, ↓wIfXE, ↓wDispI, ↓wCnt, ↓wXf, ↓wClsT, ↓wgNil, ↓asDs_nil, ↓asDs_cons, ↓asDs_map, ↓asIs_ints, ↓k_var, ↓k_varB, ↓getK_s, ↓getK_d, ↓getK_o, ↓getK_t, ↓getK_r, ↓getB_s, ↓getB_d, ↓getB_o, ↓getB_t, ↓getB_r, ↓getB_w, ↓getO_s, ↓getO_w, ↓setK_s, ↓setK_0, ↓wipeK_n, ↓wipeK_c, ↓k_name, ↓k_lc, ↓k_aug, ↓k_own, ↓k_app, ↓k_rel, ↓k_relX, ↓k_par, ↓k_par3, ↓k_par01, ↓k_par11, ↓k_put, ↓k_appPop, ↓k_try, ↓k_rem, ↓k_lcW, ↓wForW, ↓wForWX, ↓wEnum, ↓rowsD, ↓wStar, ↓wLenSet, ↓wPick, ↓wRun, ↓ite_tt, ↓ite_ff, ↓getB_l, ↓getO2_s, ↓getO2_w, ↓dropK_n, ↓dropK_c, ↓dl1_n, ↓dl1_d, ↓dl1_o, ↓dl1_t, ↓dl1_r, ↓dl1_w, ↓dl1_w2, ↓dl1_l, ↓setAllK_c, ↓setAllK_n, ↓freeK_s, ↓freeK_n, ↓freeK_d, ↓k_ix2, ↓k_app2, ↓k_put2, ↓k_forO, ↓k_parN, ↓k_wpF, ↓k_wpF2, ↓wpE, ↓wfSl, ↓wf2Nil, ↓wGPlain, ↓wG0, ↓wGThen, ↓wGIf, ↓wGYield, ↓wGForS, ↓wLstG, ↓wEnumS, ↓wM1, ↓fCntS, ↓fJoin, ↓fSplit, ↓wRevS, ↓asTs_map, ↓k_tryE, ↓wOpX, ↓asDs_app, ↓fIntS, ↓fInT, ↓wFld, ↓wPropQ, ↓wPropX, ↓wInQ, ↓wIxQ, ↓wMake, ↓wMake0, ↓wEqQ, ↓k_callIQ, ↓wRevT, ↓nE, ↓nT, ↓nA, ↓nI, ↓nOp, ↓nUn, ↓nCons, ↓nTup, ↓nLst, ↓nCB, ↓nB, ↓nAnd, ↓nOr, ↓nNot, ↓nIf, ↓nO, ↓nPart, ↓nIt, ↓nRng1, ↓nRng2, ↓k_nLc, ↓nCall, ↓nS, ↓nSeq, ↓nDrop, ↓nRet, ↓nIfS, ↓nAsg, ↓k_nPar, ↓k_nPar3, ↓k_nParN, ↓wCKw, ↓q_fMaxD, ↓ncomp_lift, ↓nCat, ↓nTimes, ↓k_nFlc, ↓asL2_l, ↓nForS, ↓k_nApp, ↓k_nAppPop, ↓k_nPut, ↓k_nOwn, ↓k_nRel, ↓k_nOpen, ↓nF, ↓nSl, ↓q_fI_1, ↓q_fI0_1, ↓q_fAdd_1, ↓q_fAdd_2, ↓q_fAdd_3, ↓q_fAdd_4, ↓q_fEq_1, ↓q_fNe_1, ↓q_fIn_1, ↓q_fIn_2, ↓q_fIx_1, ↓q_fIx_2, ↓q_fIx_3, ↓q_fIsN_1, ↓q_fU_1, ↓q_asB_1, ↓q_asI_1, ↓q_fSl_1, ↓q_fSl_2, ↓q_fSl_3, ↓q_fLen_1, ↓q_fLen_2, ↓q_fLen_3, ↓q_fLen_4, ↓q_fIsi_1, ↓q_itD_1, ↓q_itD_2, ↓q_itD_3, ↓q_asR1_1, ↓q_asR2_1, ↓q_wgCons_1, ↓q_wgCons_2, ↓q_wgTup_1, ↓q_as2_1, ↓q_as3_1, ↓q_fLstOf_1, ↓q_fLstOf_2, ↓q_fTupOf_1, ↓q_fTupOf_2, ↓q_asD_1, ↓q_fMul_1, ↓q_fMul_2, ↓q_fMul_3, ↓q_fInt_1, ↓q_fInt_2, ↓q_fRepr_1, ↓q_fMin_1, ↓q_fMin_2, ↓q_fAll_1, ↓q_asSeq_1, ↓q_asSeq_2, ↓q_asL_1, ↓q_fNil_1, ↓q_fNil_2, ↓q_fEqS_1, ↓q_fNeS_1, ↓q_asTu_1, ↓q_fSort_1, ↓q_fSort_2, ↓q_fAny_1, ↓q_fMax_1, ↓q_fMax_2, ↓q_fSum_1, ↓q_fStr_1, ↓q_asS_1, ↓q_asS1_1, ↓k_ext, ↓q_exL, ↓q_fMulS, ↓q_fMulT, ↓q_fSortT, ↓fNinT, ↓q_fStr2_1, ↓q_fStr2_2, List.map_cons, List.map_nil, List.length_cons, List.length_nil, List.cons_append, List.nil_append, List.replicate_succ, List.replicate_zero, Option.map_some, Option.map_none, ite_true, ite_false, if_true, if_false, Nat.reduceAdd, Nat.reduceSub, Nat.reduceLeDiff, Bool.false_eq_true, Bool.not_true, Bool.not_false, Bool.true_and, Bool.and_true, Bool.false_and, Bool.and_false, true_and, and_true, Bool.bne_true, Bool.bne_false, Bool.false_bne, Bool.true_bne, bne_self_eq_false]
        obtain ⟨o0, o1⟩ := hr1 o ho
        have e : atI ((itL (rowsP n ps lane) i).map PyData.int) (1 + o) = some (.int ((itL (rowsP n ps lane) i).getD (1 + o).toNat 0)) := by
          have lt : (1 + o).toNat < (itL (rowsP n ps lane) i).length := by omega
          refine at_ints (by omega) ?_
          rw [List.getD_eq_getElem?_getD, List.getElem?_eq_getElem lt]
          rfl
        refine ⟨_, e, ?_⟩
        open_z
        exact hk3
      · have e : (row.map fun o => PyData.int (1 + (itL (rowsP n ps lane) i).getD (1 + o).toNat 0)) = (row.map fun o => 1 + (itL (rowsP n ps lane) i).getD (1 + o).toNat 0).map PyData.int := by rw [List.map_map]; rfl
        rw [e, ← List.map_cons (f := PyData.int), asIs_ints]
        refine ⟨by rw [List.length_map, List.length_map]; omega, by simp, fun m hm h => ?_⟩
        have h0 : ∀ z ∈ (0 :: row.map fun o => 1 + (itL (rowsP n ps lane) i).getD (1 + o).toNat 0), 0 ≤ z := by
          intro z hz
          rcases List.mem_cons.mp hz with rfl | hz
          · exact Int.le_refl 0
          obtain ⟨o, _, rfl⟩ := List.mem_map.mp hz
          have : 0 ≤ (itL (rowsP n ps lane) i).getD (1 + o).toNat 0 := by
            rw [List.getD_eq_getElem?_getD]
            cases q : (itL (rowsP n ps lane) i)[(1 + o).toNat]? with
            | none => simp
            | some z => exact (hbd z (List.mem_of_getElem? q)).1
          omega
        have em := mxD_is h0 hm h
        rw [show mxD (0 :: row.map fun o => 1 + (itL (rowsP n ps lane) i).getD (1 + o).toNat 0) = mxD (row.map fun o => 1 + (itL (rowsP n ps lane) i).getD (1 + o).toNat 0) from Int.max_eq_right (mxD_nn _)] at em
        rw [em]
        exact hk
    · refine hN _ ⟨some x, ?_⟩
      rw [show itL (rowsP n ps lane) (i + 1) = stepL (rowsP n ps lane) (itL (rowsP n ps lane) i) from rfl]
      unfold stepL
      rw [List.map_map]
      rfl
  · obtain ⟨t, rfl⟩ := hI
    open_z
    have eL : (rgD 0 n).length = n := by rw [rgD_upto, List.length_map, List.length_map, upto_len]
    rw [eL]
    have ll := itL_len (rowsP n ps lane) n
    refine ⟨fun e => by rw [e] at ll; simp at ll; omega, fun m hm hle => ?_⟩
    have em : m = longD n ps lane := mxD_is (fun x hx => (itL_bd _ _ x hx).1) hm hle
    subst em
    by_cases q : longD n ps lane < n
    · rw [if_pos q] at k
      rw [if_neg (by simpa using q)]
      exact k
    · rw [if_neg q] at k
      rw [if_pos (by simpa using q)]
      exact k
theorem q_isint {f : Addr} {fd : FuncData} (F : Fun K "_law_is_int" "_law_is_int" sDLawIsInt f fd) (T : Blt mg) : FnOk P w K mg base CX0 1 f fd ["_law_value", "_law_low", "_law_high"] (spQ 3 RWithin) := by
  refine okQ F scDLawIsInt fun cdv A outer s H E hr => ⟨_, _, (pss_one (ps_ret (pe_and (pe_callB (k_isi (K := K) rfl) rfl T.isinstance bt_isinstance (pa_cons (pv 0) (pa_cons (pe_bltn (v := .ty "int") rfl T.int (by decide +kernel) rfl) pa_nil))) (pe_and (pe_not (pe_callB (k_isi (K := K) rfl) rfl T.isinstance bt_isinstance (pa_cons (pv 0) (pa_cons (pe_bltn (v := .ty "bool") rfl T.bool (by decide +kernel) rfl) pa_nil)))) (pe_one (pe_chain op_le op_le (pv 1) (pv 0) (pv 2))))))), inferInstance, fun ss Pd hl hR => ?_⟩
  obtain ⟨d, lo, hi, rfl, k⟩ := hR
  simp only [List.map_cons, List.map_nil, List.length_cons, List.length_nil, List.cons_append, List.nil_append, List.replicate_succ, List.replicate_zero, Nat.reduceAdd, Nat.reduceSub]; open_z
  refine ⟨by decide, ?_⟩
  cases d with
  | int i =>
    simp only [isiD, kindD, ↓wSeq, ↓wNext, ↓wIfS, ↓wRet, ↓wRetN, ↓wAsg, ↓wDrop, ↓wOp, ↓wUn, ↓wC, ↓wTy, ↓wRef, ↓wB, ↓wAnd, ↓wOr, ↓wNot, ↓wYes, ↓wAndV, ↓wOrV, ↓wNotV, ↓wIf, ↓wChain, ↓wNil, ↓wCons, ↓wTup, ↓wLst, ↓wNoPart, ↓wPart, ↓wSl, ↓wCB, ↓wIt, ↓wRng1, ↓wRng2, ↓wCall, ↓wCallB, ↓wfLst, ↓wfLstOf, ↓wOfF, ↓wForS, ↓wIxm, ↓wRev, ↓wDnew, ↓wRg1, ↓wRg2, ↓wTupRg, ↓wfLstRg, ↓wSeqX, ↓wIfX, ↓wDropX, ↓wRetX, ↓wAsgX, ↓wForX, ↓wCallX, ↓wCallXS, ↓wCall0, ↓wCallS0, ↓wRz1, ↓wRz0, ↓wIfXE, ↓wDispI, ↓wCnt, ↓wXf, ↓wClsT, ↓wgNil, ↓asDs_nil, ↓asDs_cons, ↓asDs_map, ↓asIs_ints, ↓k_var, ↓k_varB, ↓getK_s, ↓getK_d, ↓getK_o, ↓getK_t, ↓getK_r, ↓getB_s, ↓getB_d, ↓getB_o, ↓getB_t, ↓getB_r, ↓getB_w, ↓getO_s, ↓getO_w, ↓setK_s, ↓setK_0, ↓wipeK_n, ↓wipeK_c, ↓k_name, ↓k_lc, ↓k_aug, ↓k_own, ↓k_app, ↓k_rel, ↓k_relX, ↓k_par, ↓k_par3, ↓k_par01, ↓k_par11, ↓k_put, ↓k_appPop, ↓k_try, ↓k_rem, ↓k_lcW, ↓wForW, ↓wForWX, ↓wEnum, ↓rowsD, ↓wStar, ↓wLenSet, ↓wPick, ↓wRun, ↓ite_tt, ↓ite_ff, ↓getB_l, ↓getO2_s, ↓getO2_w, ↓dropK_n, ↓dropK_c, ↓dl1_n, ↓dl1_d, ↓dl1_o, ↓dl1_t, ↓dl1_r, ↓dl1_w, ↓dl1_w2, ↓dl1_l, ↓setAllK_c, ↓setAllK_n, ↓freeK_s, ↓freeK_n, ↓freeK_d, ↓k_ix2, ↓k_app2, ↓k_put2, ↓k_forO, ↓k_parN, ↓k_wpF, ↓k_wpF2, ↓wpE, ↓wfSl, ↓wf2Nil, ↓wGPlain, ↓wG0, ↓wGThen, ↓wGIf, ↓wGYield, ↓wGForS, ↓wLstG, ↓wEnumS, ↓wM1, ↓fCntS, ↓fJoin, ↓fSplit, ↓wRevS, ↓asTs_map, ↓k_tryE, ↓wOpX, ↓asDs_app, ↓fIntS, ↓fInT, ↓wFld, ↓wPropQ, ↓wPropX, ↓wInQ, ↓wIxQ, ↓wMake, ↓wMake0, ↓wEqQ, ↓k_callIQ, ↓wRevT, ↓nE, ↓nT, ↓nA, ↓nI, ↓nOp, ↓nUn, ↓nCons, ↓nTup, ↓nLst, ↓nCB, ↓nB, ↓nAnd, ↓nOr, ↓nNot, ↓nIf, ↓nO, ↓nPart, ↓nIt, ↓nRng1, ↓nRng2, ↓k_nLc, ↓nCall, ↓nS, ↓nSeq, ↓nDrop, ↓nRet, ↓nIfS, ↓nAsg, ↓k_nPar, ↓k_nPar3, ↓k_nParN, ↓wCKw, ↓q_fMaxD, ↓ncomp_lift, ↓nCat, ↓nTimes, ↓k_nFlc, ↓asL2_l, ↓nForS, ↓k_nApp, ↓k_nAppPop, ↓k_nPut, ↓k_nOwn, ↓k_nRel, ↓k_nOpen, ↓nF, ↓nSl, ↓q_fI_1, ↓q_fI0_1, ↓q_fAdd_1, ↓q_fAdd_2, ↓q_fAdd_3, ↓q_fAdd_4, ↓q_fEq_1, ↓q_fNe_1, ↓q_fIn_1, ↓q_fIn_2, ↓q_fIx_1, ↓q_fIx_2, ↓q_fIx_3, ↓q_fIsN_1, ↓q_fU_1, ↓q_asB_1, ↓q_asI_1, ↓q_fSl_1, ↓q_fSl_2, ↓q_fSl_3, ↓q_fLen_1, ↓q_fLen_2, ↓q_fLen_3, ↓q_fLen_4, ↓q_fIsi_1, ↓q_itD_1, ↓q_itD_2, ↓q_itD_3, ↓q_asR1_1, ↓q_asR2_1, ↓q_wgCons_1, ↓q_wgCons_2, ↓q_wgTup_1, ↓q_as2_1, ↓q_as3_1, ↓q_fLstOf_1, ↓q_fLstOf_2, ↓q_fTupOf_1, ↓q_fTupOf_2, ↓q_asD_1, ↓q_fMul_1, ↓q_fMul_2, ↓q_fMul_3, ↓q_fInt_1, ↓q_fInt_2, ↓q_fRepr_1, ↓q_fMin_1, ↓q_fMin_2, ↓q_fAll_1, ↓q_asSeq_1, ↓q_asSeq_2, ↓q_asL_1, ↓q_fNil_1, ↓q_fNil_2, ↓q_fEqS_1, ↓q_fNeS_1, ↓q_asTu_1, ↓q_fSort_1, ↓q_fSort_2, ↓q_fAny_1, ↓q_fMax_1, ↓q_fMax_2, ↓q_fSum_1, ↓q_fStr_1, ↓q_asS_1, ↓q_asS1_1, ↓k_ext, ↓q_exL, ↓q_fMulS, ↓q_fMulT, ↓q_fSortT, ↓fNinT, ↓q_fStr2_1, ↓q_fStr2_2, List.map_cons, List.map_nil, List.length_cons, List.length_nil, List.cons_append, List.nil_append, List.replicate_succ, List.replicate_zero, Option.map_some, Option.map_none, ite_true, ite_false, if_true, if_false, Nat.reduceAdd, Nat.reduceSub, Nat.reduceLeDiff, Bool.false_eq_true, Bool.not_true, Bool.not_false, Bool.true_and, Bool.and_true, Bool.false_and, Bool.and_false, true_and, and_true, Bool.bne_true, Bool.bne_false, Bool.false_bne, Bool.true_bne, bne_self_eq_false]
    refine (if_pos (by decide)).mpr ⟨by decide, (if_pos (by decide)).mpr ?_⟩
    by_cases h : lo ≤ i
    · simpa [h, inR] using k
    · simpa [h, inR] using k
  | _ => simpa [isiD, kindD, inR] using k
def RErr (c : Nat → Addr) (er : Addr) (cls : Value) (dc : Option Addr) : RR := fun ss Pd => ∃ v, cls = .ref (c 0) ∧ ss = [.o (catM er dc ⟨c 0, some ("value", v)⟩)] ∧ Pd (.d (.list [.str "lane", v]))
theorem q_err {f : Addr} {fd : FuncData} (F : Fun K "_law_error" "_law_error" sDLawError f fd) (T : Blt mg) (S : Ers P w K mg base c) : FnE P w K mg base 1 f fd ["_law_error_here"] (fun er cls d => spQ 1 (RErr c er cls d)) := by
  refine okE F scDLawError fun cdv A outer s H E er oe cls d hr hz hf => ⟨_, _, (pss_cons (ps_set (i := 1) scDLawError.nd rfl (Or.inl rfl) (pe_lst (pa_cons (pe_callB (k_isP List.mem_cons_self hz hf) rfl T.isinstance bt_isinstance (pa_cons (pv 0) (pa_cons (pe_glob (v := .ref (c 0)) rfl S.gNoLane rfl) pa_nil))) (pa_cons (pe_callB (k_isP List.mem_cons_self hz hf) rfl T.isinstance bt_isinstance (pa_cons (pv 0) (pa_cons (pe_glob (v := .ref (c 2)) rfl S.gNoCount rfl) pa_nil))) (pa_cons (pe_callB (k_isP List.mem_cons_self hz hf) rfl T.isinstance bt_isinstance (pa_cons (pv 0) (pa_cons (pe_glob (v := .ref (c 3)) rfl S.gBadWord rfl) pa_nil))) pa_nil)))))
    (pss_cons (ps_set (i := 1) scDLawError.nd rfl (Or.inl rfl) (pe_op (ko_add (K := K) rfl) (pv 1) (pe_lst (pa_cons (pe_callB (k_isP List.mem_cons_self hz hf) rfl T.isinstance bt_isinstance (pa_cons (pv 0) (pa_cons (pe_glob (v := .ref (c 4)) rfl S.gOtherLanes rfl) pa_nil))) (pa_cons (pe_callB (k_isP List.mem_cons_self hz hf) rfl T.isinstance bt_isinstance (pa_cons (pv 0) (pa_cons (pe_glob (v := .ref (c 5)) rfl S.gBadRule rfl) pa_nil))) pa_nil)))))
    (pss_cons (ps_if (PW.pt (pw_or (pt_cmpR (ko_neD (K := K) rfl hr.units) (pe_countX (K := K) rfl (L2H.RoomH.u65 hr) (pv 1) pe_bl) pe_int (nomark _)) (pw_or (pt_not (pt_val (pe_callB (k_isP List.mem_cons_self hz hf) rfl T.isinstance bt_isinstance (pa_cons (pv 0) (pa_cons (pe_bltn (v := .ty "ValueError") rfl S.gValueError (by decide +kernel) rfl) pa_nil))))) (pw_or1 (pt_val (pe_callB (k_isP List.mem_cons_self hz hf) rfl T.isinstance bt_isinstance (pa_cons (pv 0) (pa_cons (pe_tupF (pa_cons (pe_glob (v := .ref (c 6)) rfl S.gEmpty rfl) (pa_cons (pe_glob (v := .ref (c 7)) rfl S.gTooLarge rfl) pa_nil))) pa_nil)))))))) (pss_one (ps_ret (pe_lst (pa_cons pe_str pa_nil)))) pss_nil)
    (pss_cons (ps_if (pt_val (pe_ix (kx_X (K := K) rfl) (pv 1) pe_int (fun _ _ => rfl))) (pss_one (ps_ret (pe_lst (pa_cons pe_str (pa_cons (pe_xp List.mem_cons_self S.xNoLane.2.2.2.1 S.xNoLane.2.2.1 hz hf (pv 0)) pa_nil))))) pss_nil)
    (pss_cons ps_never
    (pss_cons ps_never
    (pss_one ps_never))))))), inferInstance, fun ss Pd hl hR => ?_⟩
  obtain ⟨v, rfl, rfl, k⟩ := hR
  simp only [List.map_cons, List.map_nil, List.length_cons, List.length_nil, List.cons_append, List.nil_append, List.replicate_succ, List.replicate_zero, Nat.reduceAdd, Nat.reduceSub]; open_z
  have is0 := S.is 0 (by decide)
  refine ⟨⟨c 0, some ("value", v)⟩, true, rfl, is0, .inl ⟨c 0, rfl, S.kit 0 (by decide) 0 (by decide)⟩, ?_⟩
  refine ⟨⟨c 0, some ("value", v)⟩, false, rfl, is0, .inl ⟨c 2, rfl, S.kit 0 (by decide) 2 (by decide)⟩, ?_⟩
  refine ⟨⟨c 0, some ("value", v)⟩, false, rfl, is0, .inl ⟨c 3, rfl, S.kit 0 (by decide) 3 (by decide)⟩, ?_⟩
  open_z
  refine ⟨⟨c 0, some ("value", v)⟩, false, rfl, is0, .inl ⟨c 4, rfl, S.kit 0 (by decide) 4 (by decide)⟩, ?_⟩
  refine ⟨⟨c 0, some ("value", v)⟩, false, rfl, is0, .inl ⟨c 5, rfl, S.kit 0 (by decide) 5 (by decide)⟩, ?_⟩
  open_z
  refine ⟨rfl, rfl, rfl, rfl, ?_⟩
  rw [if_neg (by decide)]
  refine ⟨⟨c 0, some ("value", v)⟩, true, rfl, is0, .inr (.inl ⟨"ValueError", rfl, S.kv 0 (by decide)⟩), ?_⟩
  open_z
  refine ⟨⟨c 0, some ("value", v)⟩, false, rfl, is0, .inr (.inr ⟨[c 6, c 7], rfl, S.ka0 0 (by decide)⟩), ?_⟩
  open_z
  refine ⟨.bool true, rfl, ?_⟩
  simp only [asB, if_true]
  exact ⟨⟨c 0, some ("value", v)⟩, v, rfl, rfl, k⟩
end
end Lr

namespace Lr
open PySem L2
abbrev sDFavoured : Stmt := topS 23
abbrev nDFavoured : List Str := ["rule", "lane", "last", "at", "others", "other"]
theorem scDFavoured : FnScope nDFavoured ["rule", "lane", "last"] (defScope sDFavoured) :=
  ⟨rfl, rfl, rfl, by decide +kernel, rfl, by decide +kernel, by decide +kernel⟩
abbrev sDMending : Stmt := topS 24
abbrev nDMending : List Str := ["rule", "lane", "last"]
theorem scDMending : FnScope nDMending ["rule", "lane"] (defScope sDMending) :=
  ⟨rfl, rfl, rfl, by decide +kernel, rfl, by decide +kernel, by decide +kernel⟩
section
variable {P : Program} {w : World} {K : PySem.W.Frag} {mg : Str → Option Value} {base : Heap} {c : Nat → Addr}
/-- the rule with the lane before all others at one place -/
def favL (pn : List Int) (lane : Int) : List Int := lane :: pn.filter fun o => !(o == lane)
def favP (ps : List (List Int)) (lane : Int) (k : Nat) : List (List Int) := ps.take k ++ favL (ps.getD k []) lane :: ps.drop (k + 1)
theorem favL_perm {n : Nat} {pn : List Int} {lane : Int} (hp : pn.Perm (upto n)) (h : 0 ≤ lane ∧ lane < n) : (favL pn lane).Perm (upto n) := by
  have hm : lane ∈ pn := hp.mem_iff.mpr (mem_upto.mpr h)
  have hn : pn.Nodup := hp.nodup_iff.mpr (upto_nodup n)
  refine List.Perm.trans ?_ hp
  unfold favL
  have e : pn.filter (fun o => !(o == lane)) = pn.erase lane := by
    rw [hn.erase_eq_filter]
    rfl
  rw [e]
  exact (List.perm_cons_erase hm).symm
theorem favP_ok {n : Nat} {ps : List (List Int)} {lane : Int} {k : Nat} (hR : RuleOk n ps) (h : 0 ≤ lane ∧ lane < n) (hk : k ≤ n) : RuleOk n (favP ps lane k) := by
  have lps : ps.length = n + 1 := hR.2.1
  refine ⟨hR.1, ?_, fun p hp => ?_⟩
  · unfold favP
    rw [List.length_append, List.length_cons, List.length_take, List.length_drop]
    omega
  · unfold favP at hp
    rcases List.mem_append.mp hp with hp | hp
    · exact hR.2.2 p (List.mem_of_mem_take hp)
    · rcases List.mem_cons.mp hp with rfl | hp
      · refine favL_perm (hR.2.2 _ ?_) h
        rw [List.getD_eq_getElem?_getD, List.getElem?_eq_getElem (by omega)]
        exact List.getElem_mem _
      · exact hR.2.2 p (List.mem_of_mem_drop hp)
def spotD (l : PyData) : Nat := match l with | .int i => 1 + i.toNat | _ => 0
def favO (c : Nat → Addr) (n : Nat) (ps : List (List Int)) (d l : PyData) : Out := if inR d 0 ((n : Int) - 1) = true then
    (if (isNone l || inR l 0 ((n : Int) - 1)) = true then .val (match d with | .int i => ruleD (favP ps i (spotD l)) | _ => .none) else .err ⟨c 0, some ("value", l)⟩) else .err ⟨c 0, some ("value", d)⟩
def XFav (c : Nat → Addr) : RX := fun ss Pd xp => ∃ (n : Nat) (ps : List (List Int)) (d l : PyData), ss = [.d (ruleD ps), .d d, .d l] ∧ RuleOk n ps ∧ n ≤ 6 ∧ (favO c n ps d l).go Pd xp
theorem q_fav {f : Addr} {fd : FuncData} (F : Fun K "favoured" "favoured" sDFavoured f fd) (T : Blt mg) (S : Ers P w K mg base c) (ccheck_lane : CalX P w K mg base 4 "check_lane" ["rule", "value"] (spX 2 (XCheck c))) : FnOk P w K mg base (L2.CX P w) 5 f fd ["rule", "lane", "last"] (spX 3 (XFav c)) := by
  refine okX F scDFavoured fun cdv A outer s H E hr => ⟨_, _, (pss_cons (ps_expr (pe_calX ccheck_lane (hr.mono (by decide)) (takes_of rfl rfl rfl rfl) rfl (pa_cons (pv 0) (pa_cons (pv 1) pa_nil))))
    (pss_cons (ps_if (pt_cmpR ko_notN (pv 2) pe_non (nomark _)) (pss_one (ps_expr (pe_calX ccheck_lane (hr.mono (by decide)) (takes_of rfl rfl rfl rfl) rfl (pa_cons (pv 0) (pa_cons (pv 2) pa_nil))))) pss_nil)
    (pss_cons (ps_set (i := 3) scDFavoured.nd rfl (Or.inl rfl) (pe_ifExp (pt_cmpR ko_isN (pv 2) pe_non (nomark _)) pe_int (pe_op (ko_add (K := K) rfl) pe_int (pv 2))))
    (pss_cons (lcS (vs := [5]) rfl (ps_setLc (i := 4) (own := [("other", 5)]) (g := gName 5)  (by rfl) scDFavoured.nd rfl rfl (sw_true rfl rfl rfl (by decide +kernel)) (ki_any (K := K) rfl (pe_ix (kx_X (K := K) rfl) (pv 0) (pv 3) (fun _ _ => rfl))) (blkOk_by (own := [("other", 5)]) (N := nDFavoured) (sc := defScope sDFavoured) (by decide +kernel)) (fun _ _ _ _ _ => (pg_name (i := 5) scDFavoured.nd rfl (Or.inl rfl))) (fun _ _ _ _ _ => pts_one (pt_cmpR (ko_neD (K := K) rfl hr.units) (pv 5) (pv 1) (nomark _))) (fun _ _ _ _ _ => (pv 5))))
    (pss_one (ps_ret (pe_tupF (StX.pa_star (pe_slice (sl_X (K := K) rfl) (pv 0) po_none (po_some (pv 3))) (pa_cons (pe_tupF (pa_cons (pv 1) (StX.pa_star (pv 4) pa_nil))) (StX.pa_star (pe_slice (sl_X (K := K) rfl) (pv 0) (po_some (pe_op (ko_add (K := K) rfl) (pv 3) pe_int)) po_none) pa_nil)))))))))), inferInstance, fun ss Pd xp hl hR => ?_⟩
  obtain ⟨n, ps, d, l, rfl, hR, n6, k⟩ := hR
  simp only [List.map_cons, List.map_nil, List.length_cons, List.length_nil, List.cons_append, List.nil_append, List.replicate_succ, List.replicate_zero, Nat.reduceAdd, Nat.reduceSub]; open_z
  have lps : ps.length = n + 1 := hR.2.1
  have el : (((ps.map prefD).length : Int) - 2) = (n : Int) - 1 := by rw [List.length_map]; omega
  refine ⟨ps.map prefD, d, rfl, ?_⟩
  rw [el]
  unfold favO at k
  cases hd : inR d 0 ((n : Int) - 1) with
  | false =>
    simp only [hd, Bool.false_eq_true, if_false] at k ⊢
    exact k
  | true =>
    simp only [hd, if_true] at k ⊢
    cases d with
    | int i =>
      have hi : 0 ≤ i ∧ i < n := by
        simp only [inR, Bool.and_eq_true, decide_eq_true_eq] at hd
        omega
      have cmp : ∀ {Pq : List PyData → Prop} {k : Nat} {a3 a4 : Option SV}, Pq (((ps.getD k []).filter fun o => !(o == i)).map .int) → wComp (wName 5) (wB (wOp fNe (wVarB 5) (wVarB 1))) (wVar 5) [some (.d (ruleD ps)), some (.d (.int i)), some (.d l), a3, a4, none] (((ps.getD k []).map .int).map SV.d) Pq := fun hp => by
        refine comp_if (fun o => !(o == i)) (fun o ho K2 hk => ?_) hp
        simp only [wStep, ↓wSeq, ↓wNext, ↓wIfS, ↓wRet, ↓wRetN, ↓wAsg, ↓wDrop, ↓wOp, ↓wUn, ↓wC, ↓wTy, ↓wRef, ↓wB, ↓wAnd, ↓wOr, ↓wNot, ↓wYes, ↓wAndV, ↓wOrV, ↓wNotV, ↓wIf, ↓wChain, ↓wNil, ↓wCons, ↓wTup, ↓wLst, ↓wNoPart, ↓wPart, ↓wSl, ↓wCB, ↓wIt, ↓wRng1, ↓wRng2, ↓wCall, ↓wCallB, ↓wfLst, ↓wfLstOf, ↓wOfF, ↓wForS, ↓wIxm, ↓wRev, ↓wDnew, ↓wRg1, ↓wRg2, ↓wTupRg, ↓wfLstRg, ↓wSeqX, ↓wIfX, ↓wDropX, ↓wRetX, ↓wAsgX, ↓wForX, ↓wCallX, ↓wCallXS, ↓wCall0, ↓wCallS0, ↓wRz1, ↓wRz0, ↓wIfXE, ↓wDispI, ↓wCnt, ↓wXf, ↓wClsT, ↓wgNil, ↓asDs_nil, ↓asDs_cons, ↓asDs_map, ↓asIs_ints, ↓k_var, ↓k_varB, ↓getK_s, ↓getK_d, ↓getK_o, ↓getK_t, ↓getK_r, ↓getB_s, ↓getB_d, ↓getB_o, ↓getB_t, ↓getB_r, ↓getB_w, ↓getO_s, ↓getO_w, ↓setK_s, ↓setK_0, ↓wipeK_n, ↓wipeK_c, ↓k_name, ↓k_lc, ↓k_aug, ↓k_own, ↓k_app, ↓k_rel, ↓k_relX, ↓k_par, ↓k_par3, ↓k_par01, ↓k_par11, ↓k_put, ↓k_appPop, ↓k_try, ↓k_rem, ↓k_lcW, ↓wForW, ↓wForWX, ↓wEnum, ↓rowsD, ↓wStar, ↓wLenSet, ↓wPick, ↓wRun, ↓ite_tt, ↓ite_ff, ↓getB_l, ↓getO2_s, ↓getO2_w, ↓dropK_n, ↓dropK_c, ↓dl1_n, ↓dl1_d, ↓dl1_o, ↓dl1_t, ↓dl1_r, ↓dl1_w, ↓dl1_w2, ↓dl1_l, ↓setAllK_c, ↓setAllK_n, ↓freeK_s, ↓freeK_n, ↓freeK_d, ↓k_ix2, ↓k_app2, ↓k_put2, ↓k_forO, ↓k_parN, ↓k_wpF, ↓k_wpF2, ↓wpE, ↓wfSl, ↓wf2Nil, ↓wGPlain, ↓wG0, ↓wGThen, ↓wGIf, ↓wGYield, ↓wGForS, ↓wLstG, ↓wEnumS, ↓wM1, ↓fCntS, ↓fJoin, ↓fSplit, ↓wRevS, ↓asTs_map, ↓k_tryE, ↓wOpX, ↓asDs_app, ↓fIntS, ↓fInT, ↓wFld, ↓wPropQ, ↓wPropX, ↓wInQ, ↓wIxQ, ↓wMake, ↓wMake0, ↓wEqQ, ↓k_callIQ, ↓wRevT, ↓nE, ↓nT, ↓nA, ↓nI, ↓nOp, ↓nUn, ↓nCons, ↓nTup, ↓nLst, ↓nCB, ↓nB, ↓nAnd, ↓nOr, ↓nNot, ↓nIf, ↓nO, ↓nPart, ↓nIt, ↓nRng1, ↓nRng2, ↓k_nLc, ↓nCall, ↓nS, ↓nSeq, ↓nDrop, ↓nRet, ↓nIfS, ↓nAsg, ↓k_nPar, ↓k_nPar3, ↓k_nParN, ↓wCKw, ↓q_fMaxD, ↓ncomp_lift, ↓nCat, ↓nTimes, ↓k_nFlc, ↓asL2_l, ↓nForS, ↓k_nApp, ↓k_nAppPop, ↓k_nPut, ↓k_nOwn, ↓k_nRel, ↓k_nOpen, ↓nF, ↓nSl, ↓q_fI_1, ↓q_fI0_1, ↓q_fAdd_1, ↓q_fAdd_2, ↓q_fAdd_3, ↓q_fAdd_4, ↓q_fEq_1, ↓q_fNe_1, ↓q_fIn_1, ↓q_fIn_2, ↓q_fIx_1, ↓q_fIx_2, ↓q_fIx_3, ↓q_fIsN_1, ↓q_fU_1, ↓q_asB_1, ↓q_asI_1, ↓q_fSl_1, ↓q_fSl_2, ↓q_fSl_3, ↓q_fLen_1, ↓q_fLen_2, ↓q_fLen_3, ↓q_fLen_4, ↓q_fIsi_1, ↓q_itD_1, ↓q_itD_2, ↓q_itD_3, ↓q_asR1_1, ↓q_asR2_1, ↓q_wgCons_1, ↓q_wgCons_2, ↓q_wgTup_1, ↓q_as2_1, ↓q_as3_1, ↓q_fLstOf_1, ↓q_fLstOf_2, ↓q_fTupOf_1, ↓q_fTupOf_2, ↓q_asD_1, ↓q_fMul_1, ↓q_fMul_2, ↓q_fMul_3, ↓q_fInt_1, ↓q_fInt_2, ↓q_fRepr_1, ↓q_fMin_1, ↓q_fMin_2, ↓q_fAll_1, ↓q_asSeq_1, ↓q_asSeq_2, ↓q_asL_1, ↓q_fNil_1, ↓q_fNil_2, ↓q_fEqS_1, ↓q_fNeS_1, ↓q_asTu_1, ↓q_fSort_1, ↓q_fSort_2, ↓q_fAny_1, ↓q_fMax_1, ↓q_fMax_2, ↓q_fSum_1, ↓q_fStr_1, ↓q_asS_1, ↓q_asS1_1, ↓k_ext, ↓q_exL, ↓q_fMulS, ↓q_fMulT, ↓q_fSortT, ↓fNinT, ↓q_fStr2_1, ↓q_fStr2_2, List.map_cons, List.map_nil, List.length_cons, List.length_nil, List.cons_append, List.nil_append, List.replicate_succ, List.replicate_zero, Option.map_some, Option.map_none, ite_true, ite_false, if_true, if_false, Nat.reduceAdd, Nat.reduceSub, Nat.reduceLeDiff, Bool.false_eq_true, Bool.not_true, Bool.not_false, Bool.true_and, Bool.and_true, Bool.false_and, Bool.and_false, true_and, and_true, Bool.bne_true, Bool.bne_false, Bool.false_bne, Bool.true_bne, bne_self_eq_false]
        rw [eqv_int]
        refine ⟨shp_int _, shp_int _, ?_⟩
        cases h : (o == i) <;> (rw [h] at hk; simpa [asB] using hk)
      have at_ : ∀ {k : Nat}, k ≤ n → atI (ps.map prefD) ((k : Nat) : Int) = some (prefD (ps.getD k [])) := fun {k} hk => atI_nat (by
        rw [List.getElem?_map, List.getElem?_eq_getElem (show k < ps.length by omega), List.getD_eq_getElem?_getD, List.getElem?_eq_getElem (show k < ps.length by omega)]
        rfl)
      have len_ : ∀ {k : Nat}, k ≤ n → (ps.getD k []).length = n := fun {k} hk => by
        have hm : ps.getD k [] ∈ ps := by
          rw [List.getD_eq_getElem?_getD, List.getElem?_eq_getElem (show k < ps.length by omega)]
          exact List.getElem_mem _
        rw [(hR.2.2 _ hm).length_eq, upto_len]
      have whole : ∀ {k : Nat}, (ps.map prefD).take k ++ PyData.tuple (PyData.int i :: (((ps.getD k []).filter fun o => !(o == i)).map PyData.int)) :: (ps.map prefD).drop (k + 1) = (favP ps i k).map prefD := fun {k} => by
        unfold favP favL
        rw [List.map_append, List.map_cons, List.map_take, List.map_drop]
        rfl
      have wlen : ∀ {k : Nat}, ((favP ps i k).map prefD).length ≤ 100000 := fun {k} => by
        unfold favP
        rw [List.length_map, List.length_append, List.length_cons, List.length_take, List.length_drop]
        omega
      have flen : ∀ {k : Nat}, k ≤ n → (((ps.getD k []).filter fun o => !(o == i)).map PyData.int).length ≤ 99999 := fun {k} hk => by
        rw [List.length_map]
        have := List.length_filter_le (fun o => !(o == i)) (ps.getD k [])
        rw [len_ hk] at this
        omega
      cases hz : isNone l with
      | true =>
        have e : l = .none := by cases l <;> first | rfl | cases hz
        subst e
        simp only [hz, Bool.true_or, if_true, Bool.not_true, Bool.false_eq_true, if_false] at k ⊢
        refine ⟨_, at_ (k := 0) (by omega), ?_⟩
        simp only [prefD, ↓wSeq, ↓wNext, ↓wIfS, ↓wRet, ↓wRetN, ↓wAsg, ↓wDrop, ↓wOp, ↓wUn, ↓wC, ↓wTy, ↓wRef, ↓wB, ↓wAnd, ↓wOr, ↓wNot, ↓wYes, ↓wAndV, ↓wOrV, ↓wNotV, ↓wIf, ↓wChain, ↓wNil, ↓wCons, ↓wTup, ↓wLst, ↓wNoPart, ↓wPart, ↓wSl, ↓wCB, ↓wIt, ↓wRng1, ↓wRng2, ↓wCall, ↓wCallB, ↓wfLst, ↓wfLstOf, ↓wOfF, ↓wForS, ↓wIxm, ↓wRev, ↓wDnew, ↓wRg1, ↓wRg2, ↓wTupRg, ↓wfLstRg, ↓wSeqX, ↓wIfX, ↓wDropX, ↓wRetX, ↓wAsgX, ↓wForX, ↓wCallX, ↓wCallXS, ↓wCall0, ↓wCallS0, ↓wRz1, ↓wRz0, ↓wIfXE, ↓wDispI, ↓wCnt, ↓wXf, ↓wClsT, ↓wgNil, ↓asDs_nil, ↓asDs_cons, ↓asDs_map, ↓asIs_ints, ↓k_var, ↓k_varB, ↓getK_s, ↓getK_d, ↓getK_o, ↓getK_t, ↓getK_r, ↓getB_s, ↓getB_d, ↓getB_o, ↓getB_t, ↓getB_r, ↓getB_w, ↓getO_s, ↓getO_w, ↓setK_s, ↓setK_0, ↓wipeK_n, ↓wipeK_c, ↓k_name, ↓k_lc, ↓k_aug, ↓k_own, ↓k_app, ↓k_rel, ↓k_relX, ↓k_par, ↓k_par3, ↓k_par01, ↓k_par11, ↓k_put, ↓k_appPop, ↓k_try, ↓k_rem, ↓k_lcW, ↓wForW, ↓wForWX, ↓wEnum, ↓rowsD, ↓wStar, ↓wLenSet, ↓wPick, ↓wRun, ↓ite_tt, ↓ite_ff, ↓getB_l, ↓getO2_s, ↓getO2_w, ↓dropK_n, ↓dropK_c, ↓dl1_n, ↓dl1_d, ↓dl1_o, ↓dl1_t, ↓dl1_r, ↓dl1_w, ↓dl1_w2, ↓dl1_l, ↓setAllK_c, ↓setAllK_n, ↓freeK_s, ↓freeK_n, ↓freeK_d, ↓k_ix2, ↓k_app2, ↓k_put2, ↓k_forO, ↓k_parN, ↓k_wpF, ↓k_wpF2, ↓wpE, ↓wfSl, ↓wf2Nil, ↓wGPlain, ↓wG0, ↓wGThen, ↓wGIf, ↓wGYield, ↓wGForS, ↓wLstG, ↓wEnumS, ↓wM1, ↓fCntS, ↓fJoin, ↓fSplit, ↓wRevS, ↓asTs_map, ↓k_tryE, ↓wOpX, ↓asDs_app, ↓fIntS, ↓fInT, ↓wFld, ↓wPropQ, ↓wPropX, ↓wInQ, ↓wIxQ, ↓wMake, ↓wMake0, ↓wEqQ, ↓k_callIQ, ↓wRevT, ↓nE, ↓nT, ↓nA, ↓nI, ↓nOp, ↓nUn, ↓nCons, ↓nTup, ↓nLst, ↓nCB, ↓nB, ↓nAnd, ↓nOr, ↓nNot, ↓nIf, ↓nO, ↓nPart, ↓nIt, ↓nRng1, ↓nRng2, ↓k_nLc, ↓nCall, ↓nS, ↓nSeq, ↓nDrop, ↓nRet, ↓nIfS, ↓nAsg, ↓k_nPar, ↓k_nPar3, ↓k_nParN, ↓wCKw, ↓q_fMaxD, ↓ncomp_lift, ↓nCat, ↓nTimes, ↓k_nFlc, ↓asL2_l, ↓nForS, ↓k_nApp, ↓k_nAppPop, ↓k_nPut, ↓k_nOwn, ↓k_nRel, ↓k_nOpen, ↓nF, ↓nSl, ↓q_fI_1, ↓q_fI0_1, ↓q_fAdd_1, ↓q_fAdd_2, ↓q_fAdd_3, ↓q_fAdd_4, ↓q_fEq_1, ↓q_fNe_1, ↓q_fIn_1, ↓q_fIn_2, ↓q_fIx_1, ↓q_fIx_2, ↓q_fIx_3, ↓q_fIsN_1, ↓q_fU_1, ↓q_asB_1, ↓q_asI_1, ↓q_fSl_1, ↓q_fSl_2, ↓q_fSl_3, ↓q_fLen_1, ↓q_fLen_2, ↓q_fLen_3, ↓q_fLen_4, ↓q_fIsi_1, ↓q_itD_1, ↓q_itD_2, ↓q_itD_3, ↓q_asR1_1, ↓q_asR2_1, ↓q_wgCons_1, ↓q_wgCons_2, ↓q_wgTup_1, ↓q_as2_1, ↓q_as3_1, ↓q_fLstOf_1, ↓q_fLstOf_2, ↓q_fTupOf_1, ↓q_fTupOf_2, ↓q_asD_1, ↓q_fMul_1, ↓q_fMul_2, ↓q_fMul_3, ↓q_fInt_1, ↓q_fInt_2, ↓q_fRepr_1, ↓q_fMin_1, ↓q_fMin_2, ↓q_fAll_1, ↓q_asSeq_1, ↓q_asSeq_2, ↓q_asL_1, ↓q_fNil_1, ↓q_fNil_2, ↓q_fEqS_1, ↓q_fNeS_1, ↓q_asTu_1, ↓q_fSort_1, ↓q_fSort_2, ↓q_fAny_1, ↓q_fMax_1, ↓q_fMax_2, ↓q_fSum_1, ↓q_fStr_1, ↓q_asS_1, ↓q_asS1_1, ↓k_ext, ↓q_exL, ↓q_fMulS, ↓q_fMulT, ↓q_fSortT, ↓fNinT, ↓q_fStr2_1, ↓q_fStr2_2, List.map_cons, List.map_nil, List.length_cons, List.length_nil, List.cons_append, List.nil_append, List.replicate_succ, List.replicate_zero, Option.map_some, Option.map_none, ite_true, ite_false, if_true, if_false, Nat.reduceAdd, Nat.reduceSub, Nat.reduceLeDiff, Bool.false_eq_true, Bool.not_true, Bool.not_false, Bool.true_and, Bool.and_true, Bool.false_and, Bool.and_false, true_and, and_true, Bool.bne_true, Bool.bne_false, Bool.false_bne, Bool.true_bne, bne_self_eq_false]
        refine ⟨by rw [List.length_map, List.length_map, len_ (k := 0) (by omega)]; omega, ?_⟩
        refine cmp ?_
        simp only [ruleD, List.append_nil, ↓wSeq, ↓wNext, ↓wIfS, ↓wRet, ↓wRetN, ↓wAsg, ↓wDrop, ↓wOp, ↓wUn, ↓wC, ↓wTy, ↓wRef, ↓wB, ↓wAnd, ↓wOr, ↓wNot, ↓wYes, ↓wAndV, ↓wOrV, ↓wNotV, ↓wIf, ↓wChain, ↓wNil, ↓wCons, ↓wTup, ↓wLst, ↓wNoPart, ↓wPart, ↓wSl, ↓wCB, ↓wIt, ↓wRng1, ↓wRng2, ↓wCall, ↓wCallB, ↓wfLst, ↓wfLstOf, ↓wOfF, ↓wForS, ↓wIxm, ↓wRev, ↓wDnew, ↓wRg1, ↓wRg2, ↓wTupRg, ↓wfLstRg, ↓wSeqX, ↓wIfX, ↓wDropX, ↓wRetX, ↓wAsgX, ↓wForX, ↓wCallX, ↓wCallXS, ↓wCall0, ↓wCallS0, ↓wRz1, ↓wRz0, ↓wIfXE, ↓wDispI, ↓wCnt, ↓wXf, ↓wClsT, ↓wgNil, ↓asDs_nil, ↓asDs_cons, ↓asDs_map, ↓asIs_ints, ↓k_var, ↓k_varB, ↓getK_s, ↓getK_d, ↓getK_o, ↓getK_t, ↓getK_r, ↓getB_s, ↓getB_d, ↓getB_o, ↓getB_t, ↓getB_r, ↓getB_w, ↓getO_s, ↓getO_w, ↓setK_s, ↓setK_0, ↓wipeK_n, ↓wipeK_c, ↓k_name, ↓k_lc, ↓k_aug, ↓k_own, ↓k_app, ↓k_rel, ↓k_relX, ↓k_par, ↓k_par3, ↓k_par01, ↓k_par11, ↓k_put, ↓k_appPop, ↓k_try, ↓k_rem, ↓k_lcW, ↓wForW, ↓wForWX, ↓wEnum, ↓rowsD, ↓wStar, ↓wLenSet, ↓wPick, ↓wRun, ↓ite_tt, ↓ite_ff, ↓getB_l, ↓getO2_s, ↓getO2_w, ↓dropK_n, ↓dropK_c, ↓dl1_n, ↓dl1_d, ↓dl1_o, ↓dl1_t, ↓dl1_r, ↓dl1_w, ↓dl1_w2, ↓dl1_l, ↓setAllK_c, ↓setAllK_n, ↓freeK_s, ↓freeK_n, ↓freeK_d, ↓k_ix2, ↓k_app2, ↓k_put2, ↓k_forO, ↓k_parN, ↓k_wpF, ↓k_wpF2, ↓wpE, ↓wfSl, ↓wf2Nil, ↓wGPlain, ↓wG0, ↓wGThen, ↓wGIf, ↓wGYield, ↓wGForS, ↓wLstG, ↓wEnumS, ↓wM1, ↓fCntS, ↓fJoin, ↓fSplit, ↓wRevS, ↓asTs_map, ↓k_tryE, ↓wOpX, ↓asDs_app, ↓fIntS, ↓fInT, ↓wFld, ↓wPropQ, ↓wPropX, ↓wInQ, ↓wIxQ, ↓wMake, ↓wMake0, ↓wEqQ, ↓k_callIQ, ↓wRevT, ↓nE, ↓nT, ↓nA, ↓nI, ↓nOp, ↓nUn, ↓nCons, ↓nTup, ↓nLst, ↓nCB, ↓nB, ↓nAnd, ↓nOr, ↓nNot, ↓nIf, ↓nO, ↓nPart, ↓nIt, ↓nRng1, ↓nRng2, ↓k_nLc, ↓nCall, ↓nS, ↓nSeq, ↓nDrop, ↓nRet, ↓nIfS, ↓nAsg, ↓k_nPar, ↓k_nPar3, ↓k_nParN, ↓wCKw, ↓q_fMaxD, ↓ncomp_lift, ↓nCat, ↓nTimes, ↓k_nFlc, ↓asL2_l, ↓nForS, ↓k_nApp, ↓k_nAppPop, ↓k_nPut, ↓k_nOwn, ↓k_nRel, ↓k_nOpen, ↓nF, ↓nSl, ↓q_fI_1, ↓q_fI0_1, ↓q_fAdd_1, ↓q_fAdd_2, ↓q_fAdd_3, ↓q_fAdd_4, ↓q_fEq_1, ↓q_fNe_1, ↓q_fIn_1, ↓q_fIn_2, ↓q_fIx_1, ↓q_fIx_2, ↓q_fIx_3, ↓q_fIsN_1, ↓q_fU_1, ↓q_asB_1, ↓q_asI_1, ↓q_fSl_1, ↓q_fSl_2, ↓q_fSl_3, ↓q_fLen_1, ↓q_fLen_2, ↓q_fLen_3, ↓q_fLen_4, ↓q_fIsi_1, ↓q_itD_1, ↓q_itD_2, ↓q_itD_3, ↓q_asR1_1, ↓q_asR2_1, ↓q_wgCons_1, ↓q_wgCons_2, ↓q_wgTup_1, ↓q_as2_1, ↓q_as3_1, ↓q_fLstOf_1, ↓q_fLstOf_2, ↓q_fTupOf_1, ↓q_fTupOf_2, ↓q_asD_1, ↓q_fMul_1, ↓q_fMul_2, ↓q_fMul_3, ↓q_fInt_1, ↓q_fInt_2, ↓q_fRepr_1, ↓q_fMin_1, ↓q_fMin_2, ↓q_fAll_1, ↓q_asSeq_1, ↓q_asSeq_2, ↓q_asL_1, ↓q_fNil_1, ↓q_fNil_2, ↓q_fEqS_1, ↓q_fNeS_1, ↓q_asTu_1, ↓q_fSort_1, ↓q_fSort_2, ↓q_fAny_1, ↓q_fMax_1, ↓q_fMax_2, ↓q_fSum_1, ↓q_fStr_1, ↓q_asS_1, ↓q_asS1_1, ↓k_ext, ↓q_exL, ↓q_fMulS, ↓q_fMulT, ↓q_fSortT, ↓fNinT, ↓q_fStr2_1, ↓q_fStr2_2, List.map_cons, List.map_nil, List.length_cons, List.length_nil, List.cons_append, List.nil_append, List.replicate_succ, List.replicate_zero, Option.map_some, Option.map_none, ite_true, ite_false, if_true, if_false, Nat.reduceAdd, Nat.reduceSub, Nat.reduceLeDiff, Bool.false_eq_true, Bool.not_true, Bool.not_false, Bool.true_and, Bool.and_true, Bool.false_and, Bool.and_false, true_and, and_true, Bool.bne_true, Bool.bne_false, Bool.false_bne, Bool.true_bne, bne_self_eq_false]
        refine ⟨flen (by omega), ?_⟩
        rw [cutD_to (by decide), cutD_from (by decide)]
        have e := whole (k := 0)
        have wl := wlen (k := 0)
        rw [← e] at wl
        refine ⟨wl, ?_⟩
        have k : Pd (.d (.tuple ((favP ps i 0).map prefD))) := k
        rw [← e] at k
        exact k
      | false =>
        simp only [hz, Bool.false_or, Bool.false_eq_true, if_false, Bool.not_false, if_true] at k ⊢
        refine ⟨ps.map prefD, l, rfl, ?_⟩
        rw [el]
        cases hl2 : inR l 0 ((n : Int) - 1) with
        | false =>
          simp only [hl2, Bool.false_eq_true, if_false] at k ⊢
          exact k
        | true =>
          simp only [hl2, if_true] at k ⊢
          cases l with
          | int j =>
            have hj : 0 ≤ j ∧ j < n := by
              simp only [inR, Bool.and_eq_true, decide_eq_true_eq] at hl2
              omega
            obtain ⟨m, rfl⟩ : ∃ m : Nat, j = m := ⟨j.toNat, by omega⟩
            have hm : 1 + m ≤ n := by omega
            have ec : (1 : Int) + (m : Int) = ((1 + m : Nat) : Int) := by omega
            open_z
            rw [ec]
            refine ⟨_, at_ hm, ?_⟩
            simp only [prefD, ↓wSeq, ↓wNext, ↓wIfS, ↓wRet, ↓wRetN, ↓wAsg, ↓wDrop, ↓wOp, ↓wUn, ↓wC, ↓wTy, ↓wRef, ↓wB, ↓wAnd, ↓wOr, ↓wNot, ↓wYes, ↓wAndV, ↓wOrV, ↓wNotV, ↓wIf, ↓wChain, ↓wNil, ↓wCons, ↓wTup, ↓wLst, ↓wNoPart, ↓wPart, ↓wSl, ↓wCB, ↓wIt, ↓wRng1, ↓wRng2, ↓wCall, ↓wCallB, ↓wfLst, ↓wfLstOf, ↓wOfF, ↓wForS, ↓wIxm, ↓wRev, ↓wDnew, ↓wRg1, ↓wRg2, ↓wTupRg, ↓wfLstRg, ↓wSeqX, ↓wIfX, ↓wDropX, ↓wRetX, ↓wAsgX, ↓wForX, ↓wCallX, ↓wCallXS, ↓wCall0, ↓wCallS0, ↓wRz1, ↓wRz0, ↓wIfXE, ↓wDispI, ↓wCnt, ↓wXf, ↓wClsT, ↓wgNil, ↓asDs_nil, ↓asDs_cons, ↓asDs_map, ↓asIs_ints, ↓k_var, ↓k_varB, ↓getK_s, ↓getK_d, ↓getK_o, ↓getK_t, ↓getK_r, ↓getB_s, ↓getB_d, ↓getB_o, ↓getB_t, ↓getB_r, ↓getB_w, ↓getO_s, ↓getO_w, ↓setK_s, ↓setK_0, ↓wipeK_n, ↓wipeK_c, ↓k_name, ↓k_lc, ↓k_aug, ↓k_own, ↓k_app, ↓k_rel, ↓k_relX, ↓k_par, ↓k_par3, ↓k_par01, ↓k_par11, ↓k_put, ↓k_appPop, ↓k_try, ↓k_rem, ↓k_lcW, ↓wForW, ↓wForWX, ↓wEnum, ↓rowsD, ↓wStar, ↓wLenSet, ↓wPick, ↓wRun, ↓ite_tt, ↓ite_ff, ↓getB_l, ↓getO2_s, ↓getO2_w, ↓dropK_n, ↓dropK_c, ↓dl1_n, ↓dl1_d, ↓dl1_o, ↓dl1_t, ↓dl1_r, ↓dl1_w, ↓dl1_w2, ↓dl1_l, ↓setAllK_c, ↓setAllK_n, ↓freeK_s, ↓freeK_n, ↓freeK_d, ↓k_ix2, ↓k_app2, ↓k_put2, ↓k_forO, ↓k_parN, ↓k_wpF, ↓k_wpF2, ↓wpE, ↓wfSl, ↓wf2Nil, ↓wGPlain, ↓wG0, ↓wGThen, ↓wGIf, ↓wGYield, ↓wGForS, ↓wLstG, ↓wEnumS, ↓wM1, ↓fCntS, ↓fJoin, ↓fSplit, ↓wRevS, ↓asTs_map, ↓k_tryE, ↓wOpX, ↓asDs_app, ↓fIntS, ↓fInT, ↓wFld, ↓wPropQ, ↓wPropX, ↓wInQ, ↓wIxQ, ↓wMake, ↓wMake0, ↓wEqQ, ↓k_callIQ, ↓wRevT, ↓nE, ↓nT, ↓nA, ↓nI, ↓nOp, ↓nUn, ↓nCons, ↓nTup, ↓nLst, ↓nCB, ↓nB, ↓nAnd, ↓nOr, ↓nNot, ↓nIf, ↓nO, ↓nPart, ↓nIt, ↓nRng1, ↓nRng2, ↓k_nLc, ↓nCall, ↓nS, ↓nSeq, ↓nDrop, ↓nRet, ↓nIfS, ↓nAsg, ↓k_nPar, ↓k_nPar3, ↓k_nParN, ↓wCKw, ↓q_fMaxD, ↓ncomp_lift, ↓nCat, ↓nTimes, ↓k_nFlc, ↓asL2_l, ↓nForS, ↓k_nApp, ↓k_nAppPop, ↓k_nPut, ↓k_nOwn, ↓k_nRel, ↓k_nOpen, ↓nF, ↓nSl, ↓q_fI_1, ↓q_fI0_1, ↓q_fAdd_1, ↓q_fAdd_2, ↓q_fAdd_3, ↓q_fAdd_4, ↓q_fEq_1, ↓q_fNe_1, ↓q_fIn_1, ↓q_fIn_2, ↓q_fIx_1, ↓q_fIx_2, ↓q_fIx_3, ↓q_fIsN_1, ↓q_fU_1, ↓q_asB_1, ↓q_asI_1, ↓q_fSl_1, ↓q_fSl_2, ↓q_fSl_3, ↓q_fLen_1, ↓q_fLen_2, ↓q_fLen_3, ↓q_fLen_4, ↓q_fIsi_1, ↓q_itD_1, ↓q_itD_2, ↓q_itD_3, ↓q_asR1_1, ↓q_asR2_1, ↓q_wgCons_1, ↓q_wgCons_2, ↓q_wgTup_1, ↓q_as2_1, ↓q_as3_1, ↓q_fLstOf_1, ↓q_fLstOf_2, ↓q_fTupOf_1, ↓q_fTupOf_2, ↓q_asD_1, ↓q_fMul_1, ↓q_fMul_2, ↓q_fMul_3, ↓q_fInt_1, ↓q_fInt_2, ↓q_fRepr_1, ↓q_fMin_1, ↓q_fMin_2, ↓q_fAll_1, ↓q_asSeq_1, ↓q_asSeq_2, ↓q_asL_1, ↓q_fNil_1, ↓q_fNil_2, ↓q_fEqS_1, ↓q_fNeS_1, ↓q_asTu_1, ↓q_fSort_1, ↓q_fSort_2, ↓q_fAny_1, ↓q_fMax_1, ↓q_fMax_2, ↓q_fSum_1, ↓q_fStr_1, ↓q_asS_1, ↓q_asS1_1, ↓k_ext, ↓q_exL, ↓q_fMulS, ↓q_fMulT, ↓q_fSortT, ↓fNinT, ↓q_fStr2_1, ↓q_fStr2_2, List.map_cons, List.map_nil, List.length_cons, List.length_nil, List.cons_append, List.nil_append, List.replicate_succ, List.replicate_zero, Option.map_some, Option.map_none, ite_true, ite_false, if_true, if_false, Nat.reduceAdd, Nat.reduceSub, Nat.reduceLeDiff, Bool.false_eq_true, Bool.not_true, Bool.not_false, Bool.true_and, Bool.and_true, Bool.false_and, Bool.and_false, true_and, and_true, Bool.bne_true, Bool.bne_false, Bool.false_bne, Bool.true_bne, bne_self_eq_false]
            refine ⟨by rw [List.length_map, List.length_map, len_ hm]; omega, ?_⟩
            refine cmp ?_
            simp only [ruleD, List.append_nil, ↓wSeq, ↓wNext, ↓wIfS, ↓wRet, ↓wRetN, ↓wAsg, ↓wDrop, ↓wOp, ↓wUn, ↓wC, ↓wTy, ↓wRef, ↓wB, ↓wAnd, ↓wOr, ↓wNot, ↓wYes, ↓wAndV, ↓wOrV, ↓wNotV, ↓wIf, ↓wChain, ↓wNil, ↓wCons, ↓wTup, ↓wLst, ↓wNoPart, ↓wPart, ↓wSl, ↓wCB, ↓wIt, ↓wRng1, ↓wRng2, ↓wCall, ↓wCallB, ↓wfLst, ↓wfLstOf, ↓wOfF, ↓wForS, ↓wIxm, ↓wRev, ↓wDnew, ↓wRg1, ↓wRg2, ↓wTupRg, ↓wfLstRg, ↓wSeqX, ↓wIfX, ↓wDropX, ↓wRetX, ↓wAsgX, ↓wForX, ↓wCallX, ↓wCallXS, ↓wCall0, ↓wCallS0, ↓wRz1, ↓wRz0, ↓wIfXE, ↓wDispI, ↓wCnt, ↓wXf, ↓wClsT, ↓wgNil, ↓asDs_nil, ↓asDs_cons, ↓asDs_map, ↓asIs_ints, ↓k_var, ↓k_varB, ↓getK_s, ↓getK_d, ↓getK_o, ↓getK_t, ↓getK_r, ↓getB_s, ↓getB_d, ↓getB_o, ↓getB_t, ↓getB_r, ↓getB_w, ↓getO_s, ↓getO_w, ↓setK_s, ↓setK_0, ↓wipeK_n, ↓wipeK_c, ↓k_name, ↓k_lc, ↓k_aug, ↓k_own, ↓k_app, ↓k_rel, ↓k_relX, ↓k_par, ↓k_par3, ↓k_par01, ↓k_par11, ↓k_put, ↓k_appPop, ↓k_try, ↓k_rem, ↓k_lcW, ↓wForW, ↓wForWX, ↓wEnum, ↓rowsD, ↓wStar, ↓wLenSet, ↓wPick, ↓wRun, ↓ite_tt, ↓ite_ff, ↓getB_l, ↓getO2_s, ↓getO2_w, ↓dropK_n, ↓dropK_c, ↓dl1_n, ↓dl1_d, ↓dl1_o, ↓dl1_t, ↓dl1_r, ↓dl1_w, ↓dl1_w2, ↓dl1_l, ↓setAllK_c, ↓setAllK_n, ↓freeK_s, ↓freeK_n, ↓freeK_d, ↓k_ix2, ↓k_app2, ↓k_put2, ↓k_forO, ↓k_parN, ↓k_wpF, ↓k_wpF2, ↓wpE, ↓wfSl, ↓wf2Nil, ↓wGPlain, ↓wG0, ↓wGThen, ↓wGIf, ↓wGYield, ↓wGForS, ↓wLstG, ↓wEnumS, ↓wM1, ↓fCntS, ↓fJoin, ↓fSplit, ↓wRevS, ↓asTs_map, ↓k_tryE, ↓wOpX, ↓asDs_app, ↓fIntS, ↓fInT, ↓wFld, ↓wPropQ, ↓wPropX, ↓wInQ, ↓wIxQ, ↓wMake, ↓wMake0, ↓wEqQ, ↓k_callIQ, ↓wRevT, ↓nE, ↓nT, ↓nA, ↓nI, ↓nOp, ↓nUn, ↓nCons, ↓nTup, ↓nLst, ↓nCB, ↓nB, ↓nAnd, ↓nOr, ↓nNot, ↓nIf, ↓nO, ↓nPart, ↓nIt, ↓nRng1, ↓nRng2, ↓k_nLc, ↓nCall, ↓nS, ↓nSeq, ↓nDrop, ↓nRet, ↓nIfS, ↓nAsg, ↓k_nPar, ↓k_nPar3, ↓k_nParN, ↓wCKw, ↓q_fMaxD, ↓ncomp_lift, ↓nCat, ↓nTimes, ↓k_nFlc, ↓asL2_l, ↓nForS, ↓k_nApp, ↓k_nAppPop, ↓k_nPut, ↓k_nOwn, ↓k_nRel, ↓k_nOpen, ↓nF, ↓nSl, ↓q_fI_1, ↓q_fI0_1, ↓q_fAdd_1, ↓q_fAdd_2, ↓q_fAdd_3, ↓q_fAdd_4, ↓q_fEq_1, ↓q_fNe_1, ↓q_fIn_1, ↓q_fIn_2, ↓q_fIx_1, ↓q_fIx_2, ↓q_fIx_3, ↓q_fIsN_1, ↓q_fU_1, ↓q_asB_1, ↓q_asI_1, ↓q_fSl_1, ↓q_fSl_2, ↓q_fSl_3, ↓q_fLen_1, ↓q_fLen_2, ↓q_fLen_3, ↓q_fLen_4, ↓q_fIsi_1, ↓q_itD_1, ↓q_itD_2, ↓q_itD_3, ↓q_asR1_1, ↓q_asR2_1, ↓q_wgCons_1, ↓q_wgCons_2, ↓q_wgTup_1, ↓q_as2_1, ↓q_as3_1, ↓q_fLstOf_1, ↓q_fLstOf_2, ↓q_fTupOf_1, ↓q_fTupOf_2, ↓q_asD_1, ↓q_fMul_1, ↓q_fMul_2, ↓q_fMul_3, ↓q_fInt_1, ↓q_fInt_2, ↓q_fRepr_1, ↓q_fMin_1, ↓q_fMin_2, ↓q_fAll_1, ↓q_asSeq_1, ↓q_asSeq_2, ↓q_asL_1, ↓q_fNil_1, ↓q_fNil_2, ↓q_fEqS_1, ↓q_fNeS_1, ↓q_asTu_1, ↓q_fSort_1, ↓q_fSort_2, ↓q_fAny_1, ↓q_fMax_1, ↓q_fMax_2, ↓q_fSum_1, ↓q_fStr_1, ↓q_asS_1, ↓q_asS1_1, ↓k_ext, ↓q_exL, ↓q_fMulS, ↓q_fMulT, ↓q_fSortT, ↓fNinT, ↓q_fStr2_1, ↓q_fStr2_2, List.map_cons, List.map_nil, List.length_cons, List.length_nil, List.cons_append, List.nil_append, List.replicate_succ, List.replicate_zero, Option.map_some, Option.map_none, ite_true, ite_false, if_true, if_false, Nat.reduceAdd, Nat.reduceSub, Nat.reduceLeDiff, Bool.false_eq_true, Bool.not_true, Bool.not_false, Bool.true_and, Bool.and_true, Bool.false_and, Bool.and_false, true_and, and_true, Bool.bne_true, Bool.bne_false, Bool.false_bne, Bool.true_bne, bne_self_eq_false]
            refine ⟨flen hm, ?_⟩
            rw [cutD_to (by omega), cutD_from (by omega), show ((((1 + m : Nat) : Int) + 1).toNat) = 1 + m + 1 by omega, Int.toNat_natCast]
            have e := whole (k := 1 + m)
            have wl := wlen (k := 1 + m)
            rw [← e] at wl
            refine ⟨wl, ?_⟩
            have k : Pd (.d (.tuple ((favP ps i (1 + m)).map prefD))) := k
            rw [← e] at k
            exact k
          | _ => cases hl2
    | _ => cases hd
def mendD (n : Nat) (ps : List (List Int)) (lane : Int) : PyData := .tuple (((upto n).filter fun q => decide (longD n (favP ps lane (1 + q.toNat)) lane < n)).map .int)
def mendO (c : Nat → Addr) (n : Nat) (ps : List (List Int)) (d : PyData) : Out := if inR d 0 ((n : Int) - 1) = true then .val (match d with | .int i => mendD n ps i | _ => .none) else .err ⟨c 0, some ("value", d)⟩
def XMend (c : Nat → Addr) : RX := fun ss Pd xp => ∃ (n : Nat) (ps : List (List Int)) (d : PyData), ss = [.d (ruleD ps), .d d] ∧ RuleOk n ps ∧ n ≤ 6 ∧ (mendO c n ps d).go Pd xp
theorem q_mend {f : Addr} {fd : FuncData} (F : Fun K "mending" "mending" sDMending f fd) (T : Blt mg) (S : Ers P w K mg base c) (ccheck_lane : CalX P w K mg base 4 "check_lane" ["rule", "value"] (spX 2 (XCheck c))) (clanes_of : Cal P w K mg base 1 "lanes_of" ["rule"] (spQ 1 RLanesOf)) (cbound_of : CalX P w K mg base 9 "bound_of" ["rule", "lane"] (spX 2 (XBound c))) (cfavoured : CalX P w K mg base 5 "favoured" ["rule", "lane", "last"] (spX 3 (XFav c))) : FnOk P w K mg base (L2.CX P w) 10 f fd ["rule", "lane"] (spX 2 (XMend c)) := by
  refine okX F scDMending fun cdv A outer s H E hr => ⟨_, _, (pss_cons (ps_expr (pe_calX ccheck_lane (hr.mono (by decide)) (takes_of rfl rfl rfl rfl) rfl (pa_cons (pv 0) (pa_cons (pv 1) pa_nil))))
    (pss_one (ps_ret (pe_callTy (k_tupX (K := K) rfl) rfl T.tuple bt_tuple (pa_cons (lcQ (vs := [2]) rfl (pe_lc (own := [("last", 2)]) (g := gName 2)  (by rfl) scDMending.nd (ki_any (K := K) rfl (pe_cal clanes_of (hr.mono (by decide)) rfl (pa_cons (pv 0) pa_nil))) (blkOk_by (own := [("last", 2)]) (N := nDMending) (sc := defScope sDMending) (by decide +kernel)) (fun _ _ _ _ _ => (pg_name (i := 2) scDMending.nd rfl (Or.inl rfl))) (fun _ _ _ _ _ => pts_one (pt_cmpR ko_notN (pe_calX cbound_of (hr.mono (by decide)) takesN rfl (pa_cons (pe_calX cfavoured (hr.mono (by decide)) takesN rfl (pa_cons (pv 0) (pa_cons (pv 1) (pa_cons (pv 2) pa_nil)))) (pa_cons (pv 1) pa_nil))) pe_non (nomark _))) (fun _ _ _ _ _ => (pv 2)))) pa_nil))))), inferInstance, fun ss Pd xp hl hR => ?_⟩
  obtain ⟨n, ps, d, rfl, hR, n6, k⟩ := hR
  simp only [List.map_cons, List.map_nil, List.length_cons, List.length_nil, List.cons_append, List.nil_append, List.replicate_succ, List.replicate_zero, Nat.reduceAdd, Nat.reduceSub]; open_z
  have lps : ps.length = n + 1 := hR.2.1
  have el : (((ps.map prefD).length : Int) - 2) = (n : Int) - 1 := by rw [List.length_map]; omega
  refine ⟨ps.map prefD, d, rfl, ?_⟩
  rw [el]
  unfold mendO at k
  cases hd : inR d 0 ((n : Int) - 1) with
  | false =>
    simp only [hd, Bool.false_eq_true, if_false] at k ⊢
    exact k
  | true =>
    simp only [hd, if_true] at k ⊢
    cases d with
    | int i =>
      have hi : 0 ≤ i ∧ i < n := by
        simp only [inR, Bool.and_eq_true, decide_eq_true_eq] at hd
        omega
      refine ⟨ps.map prefD, n, rfl, by rw [List.length_map]; exact lps, by omega, ?_⟩
      open_z
      refine ⟨by rw [List.length_map, List.length_map, upto_len]; omega, comp_if (fun q => decide (longD n (favP ps i (1 + q.toNat)) i < n)) (fun q hq K2 hk => ?_) k⟩
      have hq := mem_upto.mp hq
      have h1 : inR (.int q) 0 ((n : Int) - 1) = true := by simp only [inR, Bool.and_eq_true, decide_eq_true_eq]; omega
      simp only [wStep, ↓wSeq, ↓wNext, ↓wIfS, ↓wRet, ↓wRetN, ↓wAsg, ↓wDrop, ↓wOp, ↓wUn, ↓wC, ↓wTy, ↓wRef, ↓wB, ↓wAnd, ↓wOr, ↓wNot, ↓wYes, ↓wAndV, ↓wOrV, ↓wNotV, ↓wIf, ↓wChain, ↓wNil, ↓wCons, ↓wTup, ↓wLst, ↓wNoPart, ↓wPart, ↓wSl, ↓wCB, ↓wIt, ↓wRng1, ↓wRng2, ↓wCall, ↓wCallB, ↓wfLst, ↓wfLstOf, ↓wOfF, ↓wForS, ↓wIxm, ↓wRev, ↓wDnew, ↓wRg1, ↓wRg2, ↓wTupRg, ↓wfLstRg, ↓wSeqX, ↓wIfX, ↓wDropX, ↓wRetX, ↓wAsgX, ↓wForX, ↓wCallX, ↓wCallXS, ↓wCall0, ↓wCallS0, ↓wRz1, ↓wRz0, ↓wIfXE, ↓wDispI, ↓wCnt, ↓wXf, ↓wClsT, ↓wgNil, ↓asDs_nil, ↓asDs_cons, ↓asDs_map, ↓asIs_ints, ↓k_var, ↓k_varB, ↓getK_s, ↓getK_d, ↓getK_o, ↓getK_t, ↓getK_r, ↓getB_s, ↓getB_d, ↓getB_o, ↓getB_t, ↓getB_r, ↓getB_w, ↓getO_s, ↓getO_w, ↓setK_s, ↓setK_0, ↓wipeK_n, ↓wipeK_c, ↓k_name, ↓k_lc, ↓k_aug, ↓k_own, ↓k_app, ↓k_rel, ↓k_relX, ↓k_par, ↓k_par3, ↓k_par01, ↓k_par11, ↓k_put, ↓k_appPop, ↓k_try, ↓k_rem, ↓k_lcW, ↓wForW, ↓wForWX, ↓wEnum, ↓rowsD, ↓wStar, ↓wLenSet, ↓wPick, ↓wRun, ↓ite_tt, ↓ite_ff, ↓getB_l, ↓getO2_s, ↓getO2_w, ↓dropK_n, ↓dropK_c, ↓dl1_n, ↓dl1_d, ↓dl1_o, ↓dl1_t, ↓dl1_r, ↓dl1_w, ↓dl1_w2, ↓dl1_l, ↓setAllK_c, ↓setAllK_n, ↓freeK_s, ↓freeK_n, ↓freeK_d, ↓k_ix2, ↓k_app2, ↓k_put2, ↓k_forO, ↓k_parN, ↓k_wpF, ↓k_wpF2, ↓wpE, ↓wfSl, ↓wf2Nil, ↓wGPlain, ↓wG0, ↓wGThen, ↓wGIf, ↓wGYield, ↓wGForS, ↓wLstG, ↓wEnumS, ↓wM1, ↓fCntS, ↓fJoin, ↓fSplit, ↓wRevS, ↓asTs_map, ↓k_tryE, ↓wOpX, ↓asDs_app, ↓fIntS, ↓fInT, ↓wFld, ↓wPropQ, ↓wPropX, ↓wInQ, ↓wIxQ, ↓wMake, ↓wMake0, ↓wEqQ, ↓k_callIQ, ↓wRevT, ↓nE, ↓nT, ↓nA, ↓nI, ↓nOp, ↓nUn, ↓nCons, ↓nTup, ↓nLst, ↓nCB, ↓nB, ↓nAnd, ↓nOr, ↓nNot, ↓nIf, ↓nO, ↓nPart, ↓nIt, ↓nRng1, ↓nRng2, ↓k_nLc, ↓nCall, ↓nS, ↓nSeq, ↓nDrop, ↓nRet, ↓nIfS, ↓nAsg, ↓k_nPar, ↓k_nPar3, ↓k_nParN, ↓wCKw, ↓q_fMaxD, ↓ncomp_lift, ↓nCat, ↓nTimes, ↓k_nFlc, ↓asL2_l, ↓nForS, ↓k_nApp, ↓k_nAppPop, ↓k_nPut, ↓k_nOwn, ↓k_nRel, ↓k_nOpen, ↓nF, ↓nSl, ↓q_fI_1, ↓q_fI0_1, ↓q_fAdd_1, ↓q_fAdd_2, ↓q_fAdd_3, ↓q_fAdd_4, ↓q_fEq_1, ↓q_fNe_1, ↓q_fIn_1, ↓q_fIn_2, ↓q_fIx_1, ↓q_fIx_2, ↓q_fIx_3, ↓q_fIsN_1, ↓q_fU_1, ↓q_asB_1, ↓q_asI_1, ↓q_fSl_1, ↓q_fSl_2, ↓q_fSl_3, ↓q_fLen_1, ↓q_fLen_2, ↓q_fLen_3, ↓q_fLen_4, ↓q_fIsi_1, ↓q_itD_1, ↓q_itD_2, ↓q_itD_3, ↓q_asR1_1, ↓q_asR2_1, ↓q_wgCons_1, ↓q_wgCons_2, ↓q_wgTup_1, ↓q_as2_1, ↓q_as3_1, ↓q_fLstOf_1, ↓q_fLstOf_2, ↓q_fTupOf_1, ↓q_fTupOf_2, ↓q_asD_1, ↓q_fMul_1, ↓q_fMul_2, ↓q_fMul_3, ↓q_fInt_1, ↓q_fInt_2, ↓q_fRepr_1, ↓q_fMin_1, ↓q_fMin_2, ↓q_fAll_1, ↓q_asSeq_1, ↓q_asSeq_2, ↓q_asL_1, ↓q_fNil_1, ↓q_fNil_2, ↓q_fEqS_1, ↓q_fNeS_1, ↓q_asTu_1, ↓q_fSort_1, ↓q_fSort_2, ↓q_fAny_1, ↓q_fMax_1, ↓q_fMax_2, ↓q_fSum_1, ↓q_fStr_1, ↓q_asS_1, ↓q_asS1_1, ↓k_ext, ↓q_exL, ↓q_fMulS, ↓q_fMulT, ↓q_fSortT, ↓fNinT, ↓q_fStr2_1, ↓q_fStr2_2, List.map_cons, List.map_nil, List.length_cons, List.length_nil, List.cons_append, List.nil_append, List.replicate_succ, List.replicate_zero, Option.map_some, Option.map_none, ite_true, ite_false, if_true, if_false, Nat.reduceAdd, Nat.reduceSub, Nat.reduceLeDiff, Bool.false_eq_true, Bool.not_true, Bool.not_false, Bool.true_and, Bool.and_true, Bool.false_and, Bool.and_false, true_and, and_true, Bool.bne_true, Bool.bne_false, Bool.false_bne, Bool.true_bne, bne_self_eq_false]
      refine ⟨n, ps, .int i, .int q, rfl, hR, n6, ?_⟩
      unfold favO
      rw [hd, h1]
      have hR2 : RuleOk n (favP ps i (1 + q.toNat)) := favP_ok hR hi (by omega)
      refine ⟨n, favP ps i (1 + q.toNat), .int i, rfl, hR2, n6, ?_⟩
      unfold boundO
      rw [hd]
      show _
      by_cases h : longD n (favP ps i (1 + q.toNat)) i < n
      · rw [decide_eq_true h] at hk
        have e : boundD n (favP ps i (1 + q.toNat)) i = .int (longD n (favP ps i (1 + q.toNat)) i) := if_pos h
        simp only [if_true, Out.go, e, ↓wSeq, ↓wNext, ↓wIfS, ↓wRet, ↓wRetN, ↓wAsg, ↓wDrop, ↓wOp, ↓wUn, ↓wC, ↓wTy, ↓wRef, ↓wB, ↓wAnd, ↓wOr, ↓wNot, ↓wYes, ↓wAndV, ↓wOrV, ↓wNotV, ↓wIf, ↓wChain, ↓wNil, ↓wCons, ↓wTup, ↓wLst, ↓wNoPart, ↓wPart, ↓wSl, ↓wCB, ↓wIt, ↓wRng1, ↓wRng2, ↓wCall, ↓wCallB, ↓wfLst, ↓wfLstOf, ↓wOfF, ↓wForS, ↓wIxm, ↓wRev, ↓wDnew, ↓wRg1, ↓wRg2, ↓wTupRg, ↓wfLstRg, ↓wSeqX, ↓wIfX, ↓wDropX, ↓wRetX, ↓wAsgX, ↓wForX, ↓wCallX, ↓wCallXS, ↓wCall0, ↓wCallS0, ↓wRz1, ↓wRz0, ↓wIfXE, ↓wDispI, ↓wCnt, ↓wXf, ↓wClsT, ↓wgNil, ↓asDs_nil, ↓asDs_cons, ↓asDs_map, ↓asIs_ints, ↓k_var, ↓k_varB, ↓getK_s, ↓getK_d, ↓getK_o, ↓getK_t, ↓getK_r, ↓getB_s, ↓getB_d, ↓getB_o, ↓getB_t, ↓getB_r, ↓getB_w, ↓getO_s, ↓getO_w, ↓setK_s, ↓setK_0, ↓wipeK_n, ↓wipeK_c, ↓k_name, ↓k_lc, ↓k_aug, ↓k_own, ↓k_app, ↓k_rel, ↓k_relX, ↓k_par, ↓k_par3, ↓k_par01, ↓k_par11, ↓k_put, ↓k_appPop, ↓k_try, ↓k_rem, ↓k_lcW, ↓wForW, ↓wForWX, ↓wEnum, ↓rowsD, ↓wStar, ↓wLenSet, ↓wPick, ↓wRun, ↓ite_tt, ↓ite_ff, ↓getB_l, ↓getO2_s, ↓getO2_w, ↓dropK_n, ↓dropK_c, ↓dl1_n, ↓dl1_d, ↓dl1_o, ↓dl1_t, ↓dl1_r, ↓dl1_w, ↓dl1_w2, ↓dl1_l, ↓setAllK_c, ↓setAllK_n, ↓freeK_s, ↓freeK_n, ↓freeK_d, ↓k_ix2, ↓k_app2, ↓k_put2, ↓k_forO, ↓k_parN, ↓k_wpF, ↓k_wpF2, ↓wpE, ↓wfSl, ↓wf2Nil, ↓wGPlain, ↓wG0, ↓wGThen, ↓wGIf, ↓wGYield, ↓wGForS, ↓wLstG, ↓wEnumS, ↓wM1, ↓fCntS, ↓fJoin, ↓fSplit, ↓wRevS, ↓asTs_map, ↓k_tryE, ↓wOpX, ↓asDs_app, ↓fIntS, ↓fInT, ↓wFld, ↓wPropQ, ↓wPropX, ↓wInQ, ↓wIxQ, ↓wMake, ↓wMake0, ↓wEqQ, ↓k_callIQ, ↓wRevT, ↓nE, ↓nT, ↓nA, ↓nI, ↓nOp, ↓nUn, ↓nCons, ↓nTup, ↓nLst, ↓nCB, ↓nB, ↓nAnd, ↓nOr, ↓nNot, ↓nIf, ↓nO, ↓nPart, ↓nIt, ↓nRng1, ↓nRng2, ↓k_nLc, ↓nCall, ↓nS, ↓nSeq, ↓nDrop, ↓nRet, ↓nIfS, ↓nAsg, ↓k_nPar, ↓k_nPar3, ↓k_nParN, ↓wCKw, ↓q_fMaxD, ↓ncomp_lift, ↓nCat, ↓nTimes, ↓k_nFlc, ↓asL2_l, ↓nForS, ↓k_nApp, ↓k_nAppPop, ↓k_nPut, ↓k_nOwn, ↓k_nRel, ↓k_nOpen, ↓nF, ↓nSl, ↓q_fI_1, ↓q_fI0_1, ↓q_fAdd_1, ↓q_fAdd_2, ↓q_fAdd_3, ↓q_fAdd_4, ↓q_fEq_1, ↓q_fNe_1, ↓q_fIn_1, ↓q_fIn_2, ↓q_fIx_1, ↓q_fIx_2, ↓q_fIx_3, ↓q_fIsN_1, ↓q_fU_1, ↓q_asB_1, ↓q_asI_1, ↓q_fSl_1, ↓q_fSl_2, ↓q_fSl_3, ↓q_fLen_1, ↓q_fLen_2, ↓q_fLen_3, ↓q_fLen_4, ↓q_fIsi_1, ↓q_itD_1, ↓q_itD_2, ↓q_itD_3, ↓q_asR1_1, ↓q_asR2_1, ↓q_wgCons_1, ↓q_wgCons_2, ↓q_wgTup_1, ↓q_as2_1, ↓q_as3_1, ↓q_fLstOf_1, ↓q_fLstOf_2, ↓q_fTupOf_1, ↓q_fTupOf_2, ↓q_asD_1, ↓q_fMul_1, ↓q_fMul_2, ↓q_fMul_3, ↓q_fInt_1, ↓q_fInt_2, ↓q_fRepr_1, ↓q_fMin_1, ↓q_fMin_2, ↓q_fAll_1, ↓q_asSeq_1, ↓q_asSeq_2, ↓q_asL_1, ↓q_fNil_1, ↓q_fNil_2, ↓q_fEqS_1, ↓q_fNeS_1, ↓q_asTu_1, ↓q_fSort_1, ↓q_fSort_2, ↓q_fAny_1, ↓q_fMax_1, ↓q_fMax_2, ↓q_fSum_1, ↓q_fStr_1, ↓q_asS_1, ↓q_asS1_1, ↓k_ext, ↓q_exL, ↓q_fMulS, ↓q_fMulT, ↓q_fSortT, ↓fNinT, ↓q_fStr2_1, ↓q_fStr2_2, List.map_cons, List.map_nil, List.length_cons, List.length_nil, List.cons_append, List.nil_append, List.replicate_succ, List.replicate_zero, Option.map_some, Option.map_none, ite_true, ite_false, if_true, if_false, Nat.reduceAdd, Nat.reduceSub, Nat.reduceLeDiff, Bool.false_eq_true, Bool.not_true, Bool.not_false, Bool.true_and, Bool.and_true, Bool.false_and, Bool.and_false, true_and, and_true, Bool.bne_true, Bool.bne_false, Bool.false_bne, Bool.true_bne, bne_self_eq_false, isNone]
        exact hk
      · rw [decide_eq_false h] at hk
        have e : boundD n (favP ps i (1 + q.toNat)) i = .none := if_neg h
        simp only [if_true, Out.go, e, ↓wSeq, ↓wNext, ↓wIfS, ↓wRet, ↓wRetN, ↓wAsg, ↓wDrop, ↓wOp, ↓wUn, ↓wC, ↓wTy, ↓wRef, ↓wB, ↓wAnd, ↓wOr, ↓wNot, ↓wYes, ↓wAndV, ↓wOrV, ↓wNotV, ↓wIf, ↓wChain, ↓wNil, ↓wCons, ↓wTup, ↓wLst, ↓wNoPart, ↓wPart, ↓wSl, ↓wCB, ↓wIt, ↓wRng1, ↓wRng2, ↓wCall, ↓wCallB, ↓wfLst, ↓wfLstOf, ↓wOfF, ↓wForS, ↓wIxm, ↓wRev, ↓wDnew, ↓wRg1, ↓wRg2, ↓wTupRg, ↓wfLstRg, ↓wSeqX, ↓wIfX, ↓wDropX, ↓wRetX, ↓wAsgX, ↓wForX, ↓wCallX, ↓wCallXS, ↓wCall0, ↓wCallS0, ↓wRz1, ↓wRz0, ↓wIfXE, ↓wDispI, ↓wCnt, ↓wXf, ↓wClsT, ↓wgNil, ↓asDs_nil, ↓asDs_cons, ↓asDs_map, ↓asIs_ints, ↓k_var, ↓k_varB, ↓getK_s, ↓getK_d, ↓getK_o, ↓getK_t, ↓getK_r, ↓getB_s, ↓getB_d, ↓getB_o, ↓getB_t, ↓getB_r, ↓getB_w, ↓getO_s, ↓getO_w, ↓setK_s, ↓setK_0, ↓wipeK_n, ↓wipeK_c, ↓k_name, ↓k_lc, ↓k_aug, ↓k_own, ↓k_app, ↓k_rel, ↓k_relX, ↓k_par, ↓k_par3, ↓k_par01, ↓k_par11, ↓k_put, ↓k_appPop, ↓k_try, ↓k_rem, ↓k_lcW, ↓wForW, ↓wForWX, ↓wEnum, ↓rowsD, ↓wStar, ↓wLenSet, ↓wPick, ↓wRun, ↓ite_tt, ↓ite_ff, ↓getB_l, ↓getO2_s, ↓getO2_w, ↓dropK_n, ↓dropK_c, ↓dl1_n, ↓dl1_d, ↓dl1_o, ↓dl1_t, ↓dl1_r, ↓dl1_w, ↓dl1_w2, ↓dl1_l, ↓setAllK_c, ↓setAllK_n, ↓freeK_s, ↓freeK_n, ↓freeK_d, ↓k_ix2, ↓k_app2, ↓k_put2, ↓k_forO, ↓k_parN, ↓k_wpF, ↓k_wpF2, ↓wpE, ↓wfSl, ↓wf2Nil, ↓wGPlain, ↓wG0, ↓wGThen, ↓wGIf, ↓wGYield, ↓wGForS, ↓wLstG, ↓wEnumS, ↓wM1, ↓fCntS, ↓fJoin, ↓fSplit, ↓wRevS, ↓asTs_map, ↓k_tryE, ↓wOpX, ↓asDs_app, ↓fIntS, ↓fInT, ↓wFld, ↓wPropQ, ↓wPropX, ↓wInQ, ↓wIxQ, ↓wMake, ↓wMake0, ↓wEqQ, ↓k_callIQ, ↓wRevT, ↓nE, ↓nT, ↓nA, ↓nI, ↓nOp, ↓nUn, ↓nCons, ↓nTup, ↓nLst, ↓nCB, ↓nB, ↓nAnd, ↓nOr, ↓nNot, ↓nIf, ↓nO, ↓nPart, ↓nIt, ↓nRng1, ↓nRng2, ↓k_nLc, ↓nCall, ↓nS, ↓nSeq, ↓nDrop, ↓nRet, ↓nIfS, ↓nAsg, ↓k_nPar, ↓k_nPar3, ↓k_nParN, ↓wCKw, ↓q_fMaxD, ↓ncomp_lift, ↓nCat, ↓nTimes, ↓k_nFlc, ↓asL2_l, ↓nForS, ↓k_nApp, ↓k_nAppPop, ↓k_nPut, ↓k_nOwn, ↓k_nRel, ↓k_nOpen, ↓nF, ↓nSl, ↓q_fI_1, ↓q_fI0_1, ↓q_fAdd_1, ↓q_fAdd_2, ↓q_fAdd_3, ↓q_fAdd_4, ↓q_fEq_1, ↓q_fNe_1, ↓q_fIn_1, ↓q_fIn_2, ↓q_fIx_1, ↓q_fIx_2, ↓q_fIx_3, ↓q_fIsN_1, ↓q_fU_1, ↓q_asB_1, ↓q_asI_1, ↓q_fSl_1, ↓q_fSl_2, ↓q_fSl_3, ↓q_fLen_1, ↓q_fLen_2, ↓q_fLen_3, ↓q_fLen_4, ↓q_fIsi_1, ↓q_itD_1, ↓q_itD_2, ↓q_itD_3, ↓q_asR1_1, ↓q_asR2_1, ↓q_wgCons_1, ↓q_wgCons_2, ↓q_wgTup_1, ↓q_as2_1, ↓q_as3_1, ↓q_fLstOf_1, ↓q_fLstOf_2, ↓q_fTupOf_1, ↓q_fTupOf_2, ↓q_asD_1, ↓q_fMul_1, ↓q_fMul_2, ↓q_fMul_3, ↓q_fInt_1, ↓q_fInt_2, ↓q_fRepr_1, ↓q_fMin_1, ↓q_fMin_2, ↓q_fAll_1, ↓q_asSeq_1, ↓q_asSeq_2, ↓q_asL_1, ↓q_fNil_1, ↓q_fNil_2, ↓q_fEqS_1, ↓q_fNeS_1, ↓q_asTu_1, ↓q_fSort_1, ↓q_fSort_2, ↓q_fAny_1, ↓q_fMax_1, ↓q_fMax_2, ↓q_fSum_1, ↓q_fStr_1, ↓q_asS_1, ↓q_asS1_1, ↓k_ext, ↓q_exL, ↓q_fMulS, ↓q_fMulT, ↓q_fSortT, ↓fNinT, ↓q_fStr2_1, ↓q_fStr2_2, List.map_cons, List.map_nil, List.length_cons, List.length_nil, List.cons_append, List.nil_append, List.replicate_succ, List.replicate_zero, Option.map_some, Option.map_none, ite_true, ite_false, if_true, if_false, Nat.reduceAdd, Nat.reduceSub, Nat.reduceLeDiff, Bool.false_eq_true, Bool.not_true, Bool.not_false, Bool.true_and, Bool.and_true, Bool.false_and, Bool.and_false, true_and, and_true, Bool.bne_true, Bool.bne_false, Bool.false_bne, Bool.true_bne, bne_self_eq_false, isNone]
        exact hk
    | _ => cases hd
end
end Lr

namespace Lr
open PySem L2
abbrev sDLawFavoured : Stmt := topS 35
abbrev nDLawFavoured : List Str := ["_law_rule_here", "_law_lane", "_law_spot", "_law_lanes", "_law_one"]
theorem scDLawFavoured : FnScope nDLawFavoured ["_law_rule_here", "_law_lane", "_law_spot"] (defScope sDLawFavoured) :=
  ⟨rfl, rfl, rfl, by decide +kernel, rfl, by decide +kernel, by decide +kernel⟩
abbrev sDLawMending : Stmt := topS 36
abbrev nDLawMending : List Str := ["_law_rule_here", "_law_lane", "_law_many", "_law_found", "_law_q"]
theorem scDLawMending : FnScope nDLawMending ["_law_rule_here", "_law_lane"] (defScope sDLawMending) :=
  ⟨rfl, rfl, rfl, by decide +kernel, rfl, by decide +kernel, by decide +kernel⟩
abbrev sDLawAsked : Stmt := topS 37
abbrev nDLawAsked : List Str := ["_law_rule_here", "_law_lane", "_law_item", "_law_found", "_law_error_here"]
theorem scDLawAsked : FnScope nDLawAsked ["_law_rule_here", "_law_lane", "_law_item"] (defScope sDLawAsked) :=
  ⟨rfl, rfl, rfl, by decide +kernel, rfl, by decide +kernel, by decide +kernel⟩
abbrev sDLawDue : Stmt := topS 38
abbrev nDLawDue : List Str := ["_law_rule_here", "_law_lane", "_law_item", "_law_top"]
theorem scDLawDue : FnScope nDLawDue ["_law_rule_here", "_law_lane", "_law_item"] (defScope sDLawDue) :=
  ⟨rfl, rfl, rfl, by decide +kernel, rfl, by decide +kernel, by decide +kernel⟩
section
variable {P : Program} {w : World} {K : PySem.W.Frag} {mg : Str → Option Value} {base : Heap} {c : Nat → Addr}
def RFav : RR := fun ss Pd => ∃ (n : Nat) (ps : List (List Int)) (lane : Int) (k : Nat), ss = [.d (ruleD ps), .d (.int lane), .d (.int k)] ∧ RuleOk n ps ∧ n ≤ 6 ∧ (0 ≤ lane ∧ lane < n) ∧ k ≤ n ∧ Pd (.d (ruleD (favP ps lane k)))
theorem q_lfav {f : Addr} {fd : FuncData} (F : Fun K "_law_favoured" "_law_favoured" sDLawFavoured f fd) (T : Blt mg) : FnOk P w K mg base CX0 1 f fd ["_law_rule_here", "_law_lane", "_law_spot"] (spQ 3 RFav) := by
  refine okQ F scDLawFavoured fun cdv A outer s H E hr => ⟨_, _, (pss_cons (ps_set (i := 3) scDLawFavoured.nd rfl (Or.inl rfl) (pe_op (ko_add (K := K) rfl) (pe_tupF (pa_cons (pv 1) pa_nil)) (pe_callTy (k_tupX (K := K) rfl) rfl T.tuple bt_tuple (pa_cons (lcQ (vs := [4]) rfl (pe_lc (own := [("_law_one", 4)]) (g := gName 4)  (by rfl) scDLawFavoured.nd (ki_any (K := K) rfl (pe_ix (kx_X (K := K) rfl) (pv 0) (pv 2) (fun _ _ => rfl))) (blkOk_by (own := [("_law_one", 4)]) (N := nDLawFavoured) (sc := defScope sDLawFavoured) (by decide +kernel)) (fun _ _ _ _ _ => (pg_name (i := 4) scDLawFavoured.nd rfl (Or.inl rfl))) (fun _ _ _ _ _ => pts_one (pt_cmpR (ko_neD (K := K) rfl hr.units) (pv 4) (pv 1) (nomark _))) (fun _ _ _ _ _ => (pv 4)))) pa_nil))))
    (pss_one (ps_ret (pe_op (ko_add (K := K) rfl) (pe_op (ko_add (K := K) rfl) (pe_slice (sl_X (K := K) rfl) (pv 0) po_none (po_some (pv 2))) (pe_tupF (pa_cons (pv 3) pa_nil))) (pe_slice (sl_X (K := K) rfl) (pv 0) (po_some (pe_op (ko_add (K := K) rfl) (pv 2) pe_int)) po_none))))), inferInstance, fun ss Pd hl hR => ?_⟩
  obtain ⟨n, ps, i, k, rfl, hR, n6, hi, hk, kk⟩ := hR
  simp only [List.map_cons, List.map_nil, List.length_cons, List.length_nil, List.cons_append, List.nil_append, List.replicate_succ, List.replicate_zero, Nat.reduceAdd, Nat.reduceSub]; open_z
  have lps : ps.length = n + 1 := hR.2.1
  have lk : k < ps.length := by omega
  have len_ : (ps.getD k []).length = n := by
    have hm : ps.getD k [] ∈ ps := by
      rw [List.getD_eq_getElem?_getD, List.getElem?_eq_getElem lk]
      exact List.getElem_mem _
    rw [(hR.2.2 _ hm).length_eq, upto_len]
  have at_ : atI (ps.map prefD) ((k : Nat) : Int) = some (prefD (ps.getD k [])) := atI_nat (by
    rw [List.getElem?_map, List.getElem?_eq_getElem lk, List.getD_eq_getElem?_getD, List.getElem?_eq_getElem lk]
    rfl)
  have whole : (ps.map prefD).take k ++ [PyData.tuple (PyData.int i :: (((ps.getD k []).filter fun o => !(o == i)).map PyData.int))] ++ (ps.map prefD).drop (k + 1) = (favP ps i k).map prefD := by
    unfold favP favL
    rw [List.map_append, List.map_cons, List.map_take, List.map_drop, List.append_assoc]
    rfl
  unfold ruleD at kk ⊢
  rw [← whole] at kk
  refine ⟨_, at_, ?_⟩
  simp only [prefD, ↓wSeq, ↓wNext, ↓wIfS, ↓wRet, ↓wRetN, ↓wAsg, ↓wDrop, ↓wOp, ↓wUn, ↓wC, ↓wTy, ↓wRef, ↓wB, ↓wAnd, ↓wOr, ↓wNot, ↓wYes, ↓wAndV, ↓wOrV, ↓wNotV, ↓wIf, ↓wChain, ↓wNil, ↓wCons, ↓wTup, ↓wLst, ↓wNoPart, ↓wPart, ↓wSl, ↓wCB, ↓wIt, ↓wRng1, ↓wRng2, ↓wCall, ↓wCallB, ↓wfLst, ↓wfLstOf, ↓wOfF, ↓wForS, ↓wIxm, ↓wRev, ↓wDnew, ↓wRg1, ↓wRg2, ↓wTupRg, ↓wfLstRg, ↓wSeqX, ↓wIfX, ↓wDropX, ↓wRetX, ↓wAsgX, ↓wForX, ↓wCallX, ↓wCallXS, ↓wCall0, ↓wCallS0, ↓wRz1, ↓wRz0, ↓wIfXE, ↓wDispI, ↓wCnt, ↓wXf, ↓wClsT, ↓wgNil, ↓asDs_nil, ↓asDs_cons, ↓asDs_map, ↓asIs_ints, ↓k_var, ↓k_varB, ↓getK_s, ↓getK_d, ↓getK_o, ↓getK_t, ↓getK_r, ↓getB_s, ↓getB_d, ↓getB_o, ↓getB_t, ↓getB_r, ↓getB_w, ↓getO_s, ↓getO_w, ↓setK_s, ↓setK_0, ↓wipeK_n, ↓wipeK_c, ↓k_name, ↓k_lc, ↓k_aug, ↓k_own, ↓k_app, ↓k_rel, ↓k_relX, ↓k_par, ↓k_par3, ↓k_par01, ↓k_par11, ↓k_put, ↓k_appPop, ↓k_try, ↓k_rem, ↓k_lcW, ↓wForW, ↓wForWX, ↓wEnum, ↓rowsD, ↓wStar, ↓wLenSet, ↓wPick, ↓wRun, ↓ite_tt, ↓ite_ff, ↓getB_l, ↓getO2_s, ↓getO2_w, ↓dropK_n, ↓dropK_c, ↓dl1_n, ↓dl1_d, ↓dl1_o, ↓dl1_t, ↓dl1_r, ↓dl1_w, ↓dl1_w2, ↓dl1_l, ↓setAllK_c, ↓setAllK_n, ↓freeK_s, ↓freeK_n, ↓freeK_d, ↓k_ix2, ↓k_app2, ↓k_put2, ↓k_forO, ↓k_parN, ↓k_wpF, ↓k_wpF2, ↓wpE, ↓wfSl, ↓wf2Nil, ↓wGPlain, ↓wG0, ↓wGThen, ↓wGIf, ↓wGYield, ↓wGForS, ↓wLstG, ↓wEnumS, ↓wM1, ↓fCntS, ↓fJoin, ↓fSplit, ↓wRevS, ↓asTs_map, ↓k_tryE, ↓wOpX, ↓asDs_app, ↓fIntS, ↓fInT, ↓wFld, ↓wPropQ, ↓wPropX, ↓wInQ, ↓wIxQ, ↓wMake, ↓wMake0, ↓wEqQ, ↓k_callIQ, ↓wRevT, ↓nE, ↓nT, ↓nA, ↓nI, ↓nOp, ↓nUn, ↓nCons, ↓nTup, ↓nLst, ↓nCB, ↓nB, ↓nAnd, ↓nOr, ↓nNot, ↓nIf, ↓nO, ↓nPart, ↓nIt, ↓nRng1, ↓nRng2, ↓k_nLc, ↓nCall, ↓nS, ↓nSeq, ↓nDrop, ↓nRet, ↓nIfS, ↓nAsg, ↓k_nPar, ↓k_nPar3, ↓k_nParN, ↓wCKw, ↓q_fMaxD, ↓ncomp_lift, ↓nCat, ↓nTimes, ↓k_nFlc, ↓asL2_l, ↓nForS, ↓k_nApp, ↓k_nAppPop, ↓k_nPut, ↓k_nOwn, ↓k_nRel, ↓k_nOpen, ↓nF, ↓nSl, ↓q_fI_1, ↓q_fI0_1, ↓q_fAdd_1, ↓q_fAdd_2, ↓q_fAdd_3, ↓q_fAdd_4, ↓q_fEq_1, ↓q_fNe_1, ↓q_fIn_1, ↓q_fIn_2, ↓q_fIx_1, ↓q_fIx_2, ↓q_fIx_3, ↓q_fIsN_1, ↓q_fU_1, ↓q_asB_1, ↓q_asI_1, ↓q_fSl_1, ↓q_fSl_2, ↓q_fSl_3, ↓q_fLen_1, ↓q_fLen_2, ↓q_fLen_3, ↓q_fLen_4, ↓q_fIsi_1, ↓q_itD_1, ↓q_itD_2, ↓q_itD_3, ↓q_asR1_1, ↓q_asR2_1, ↓q_wgCons_1, ↓q_wgCons_2, ↓q_wgTup_1, ↓q_as2_1, ↓q_as3_1, ↓q_fLstOf_1, ↓q_fLstOf_2, ↓q_fTupOf_1, ↓q_fTupOf_2, ↓q_asD_1, ↓q_fMul_1, ↓q_fMul_2, ↓q_fMul_3, ↓q_fInt_1, ↓q_fInt_2, ↓q_fRepr_1, ↓q_fMin_1, ↓q_fMin_2, ↓q_fAll_1, ↓q_asSeq_1, ↓q_asSeq_2, ↓q_asL_1, ↓q_fNil_1, ↓q_fNil_2, ↓q_fEqS_1, ↓q_fNeS_1, ↓q_asTu_1, ↓q_fSort_1, ↓q_fSort_2, ↓q_fAny_1, ↓q_fMax_1, ↓q_fMax_2, ↓q_fSum_1, ↓q_fStr_1, ↓q_asS_1, ↓q_asS1_1, ↓k_ext, ↓q_exL, ↓q_fMulS, ↓q_fMulT, ↓q_fSortT, ↓fNinT, ↓q_fStr2_1, ↓q_fStr2_2, List.map_cons, List.map_nil, List.length_cons, List.length_nil, List.cons_append, List.nil_append, List.replicate_succ, List.replicate_zero, Option.map_some, Option.map_none, ite_true, ite_false, if_true, if_false, Nat.reduceAdd, Nat.reduceSub, Nat.reduceLeDiff, Bool.false_eq_true, Bool.not_true, Bool.not_false, Bool.true_and, Bool.and_true, Bool.false_and, Bool.and_false, true_and, and_true, Bool.bne_true, Bool.bne_false, Bool.false_bne, Bool.true_bne, bne_self_eq_false]
  refine ⟨by rw [List.length_map, List.length_map, len_]; omega, ?_⟩
  refine comp_if (fun o => !(o == i)) (fun o ho K2 hk => ?_) ?_
  · simp only [wStep, ↓wSeq, ↓wNext, ↓wIfS, ↓wRet, ↓wRetN, ↓wAsg, ↓wDrop, ↓wOp, ↓wUn, ↓wC, ↓wTy, ↓wRef, ↓wB, ↓wAnd, ↓wOr, ↓wNot, ↓wYes, ↓wAndV, ↓wOrV, ↓wNotV, ↓wIf, ↓wChain, ↓wNil, ↓wCons, ↓wTup, ↓wLst, ↓wNoPart, ↓wPart, ↓wSl, ↓wCB, ↓wIt, ↓wRng1, ↓wRng2, ↓wCall, ↓wCallB, ↓wfLst, ↓wfLstOf, ↓wOfF, ↓wForS, ↓wIxm, ↓wRev, ↓wDnew, ↓wRg1, ↓wRg2, ↓wTupRg, ↓wfLstRg, ↓wSeqX, ↓wIfX, ↓wDropX, ↓wRetX, ↓wAsgX, ↓wForX, ↓wCallX, ↓wCallXS, ↓wCall0, ↓wCallS0, ↓wRz1, ↓wRz0, ↓wIfXE, ↓wDispI, ↓wCnt, ↓wXf, ↓wClsT, ↓wgNil, ↓asDs_nil, ↓asDs_cons, ↓asDs_map, ↓asIs_ints, ↓k_var, ↓k_varB, ↓getK_s, ↓getK_d, ↓getK_o, ↓getK_t, ↓getK_r, ↓getB_s, ↓getB_d, ↓getB_o, ↓getB_t, ↓getB_r, ↓getB_w, ↓getO_s, ↓getO_w, ↓setK_s, ↓setK_0, ↓wipeK_n, ↓wipeK_c, ↓k_name, ↓k_lc, ↓k_aug, ↓k_own, ↓k_app, ↓k_rel, ↓k_relX, ↓k_par, ↓k_par3, ↓k_par01, ↓k_par11, ↓k_put, ↓k_appPop, ↓k_try, ↓k_rem, ↓k_lcW, ↓wForW, ↓wForWX, ↓wEnum, ↓rowsD, ↓wStar, ↓wLenSet, ↓wPick, ↓wRun, ↓ite_tt, ↓ite_ff, ↓getB_l, ↓getO2_s, ↓getO2_w, ↓dropK_n, ↓dropK_c, ↓dl1_n, ↓dl1_d, ↓dl1_o, ↓dl1_t, ↓dl1_r, ↓dl1_w, ↓dl1_w2, ↓dl1_l, ↓setAllK_c, ↓setAllK_n, ↓freeK_s, ↓freeK_n, ↓freeK_d, ↓k_ix2, ↓k_app2, ↓k_put2, ↓k_forO, ↓k_parN, ↓k_wpF, ↓k_wpF2, ↓wpE, ↓wfSl, ↓wf2Nil, ↓wGPlain, ↓wG0, ↓wGThen, ↓wGIf, ↓wGYield, ↓wGForS, ↓wLstG, ↓wEnumS, ↓wM1, ↓fCntS, ↓fJoin, ↓fSplit, ↓wRevS, ↓asTs_map, ↓k_tryE, ↓wOpX, ↓asDs_app, ↓fIntS, ↓fInT, ↓wFld, ↓wPropQ, ↓wPropX, ↓wInQ, ↓wIxQ, ↓wMake, ↓wMake0, ↓wEqQ, ↓k_callIQ, ↓wRevT, ↓nE, ↓nT, ↓nA, ↓nI, ↓nOp, ↓nUn, ↓nCons, ↓nTup, ↓nLst, ↓nCB, ↓nB, ↓nAnd, ↓nOr, ↓nNot, ↓nIf, ↓nO, ↓nPart, ↓nIt, ↓nRng1, ↓nRng2, ↓k_nLc, ↓nCall, ↓nS, ↓nSeq, ↓nDrop, ↓nRet, ↓nIfS, ↓nAsg, ↓k_nPar, ↓k_nPar3, ↓k_nParN, ↓wCKw, ↓q_fMaxD, ↓ncomp_lift, ↓nCat, ↓nTimes, ↓k_nFlc, ↓asL2_l, ↓nForS, ↓k_nApp, ↓k_nAppPop, ↓k_nPut, ↓k_nOwn, ↓k_nRel, ↓k_nOpen, ↓nF, ↓nSl, ↓q_fI_1, ↓q_fI0_1, ↓q_fAdd_1, ↓q_fAdd_2, ↓q_fAdd_3, ↓q_fAdd_4, ↓q_fEq_1, ↓q_fNe_1, ↓q_fIn_1, ↓q_fIn_2, ↓q_fIx_1, ↓q_fIx_2, ↓q_fIx_3, ↓q_fIsN_1, ↓q_fU_1, ↓q_asB_1, ↓q_asI_1, ↓q_fSl_1, ↓q_fSl_2, ↓q_fSl_3, ↓q_fLen_1, ↓q_fLen_2, ↓q_fLen_3, ↓q_fLen_4, ↓q_fIsi_1, ↓q_itD_1, ↓q_itD_2, ↓q_itD_3, ↓q_asR1_1, ↓q_asR2_1, ↓q_wgCons_1, ↓q_wgCons_2, ↓q_wgTup_1, ↓q_as2_1, ↓q_as3_1, ↓q_fLstOf_1, ↓q_fLstOf_2, ↓q_fTupOf_1, ↓q_fTupOf_2, ↓q_asD_1, ↓q_fMul_1, ↓q_fMul_2, ↓q_fMul_3, ↓q_fInt_1, ↓q_fInt_2, ↓q_fRepr_1, ↓q_fMin_1, ↓q_fMin_2, ↓q_fAll_1, ↓q_asSeq_1, ↓q_asSeq_2, ↓q_asL_1, ↓q_fNil_1, ↓q_fNil_2, ↓q_fEqS_1, ↓q_fNeS_1, ↓q_asTu_1, ↓q_fSort_1, ↓q_fSort_2, ↓q_fAny_1, ↓q_fMax_1, ↓q_fMax_2, ↓q_fSum_1, ↓q_fStr_1, ↓q_asS_1, ↓q_asS1_1, ↓k_ext, ↓q_exL, ↓q_fMulS, ↓q_fMulT, ↓q_fSortT, ↓fNinT, ↓q_fStr2_1, ↓q_fStr2_2, List.map_cons, List.map_nil, List.length_cons, List.length_nil, List.cons_append, List.nil_append, List.replicate_succ, List.replicate_zero, Option.map_some, Option.map_none, ite_true, ite_false, if_true, if_false, Nat.reduceAdd, Nat.reduceSub, Nat.reduceLeDiff, Bool.false_eq_true, Bool.not_true, Bool.not_false, Bool.true_and, Bool.and_true, Bool.false_and, Bool.and_false, true_and, and_true, Bool.bne_true, Bool.bne_false, Bool.false_bne, Bool.true_bne, bne_self_eq_false]
    rw [eqv_int]
    refine ⟨shp_int _, shp_int _, ?_⟩
    cases h : (o == i) <;> (rw [h] at hk; simpa [asB] using hk)
  refine ⟨by
    rw [List.length_map]
    have := List.length_filter_le (fun o => !(o == i)) (ps.getD k [])
    rw [len_] at this
    omega, ?_⟩
  rw [cutD_to (by omega), cutD_from (by omega), show (((k : Nat) : Int) + 1).toNat = k + 1 by omega, Int.toNat_natCast]
  refine ⟨?_, ?_, kk⟩
  · rw [List.length_take, List.length_map]; omega
  · rw [List.length_append, List.length_take, List.length_drop, List.length_map, List.length_singleton]; omega
def RMnd : RR := fun ss Pd => ∃ (n : Nat) (ps : List (List Int)) (lane : Int), ss = [.d (ruleD ps), .d (.int lane)] ∧ RuleOk n ps ∧ n ≤ 6 ∧ (0 ≤ lane ∧ lane < n) ∧ Pd (.d (mendD n ps lane))
theorem q_lmend {f : Addr} {fd : FuncData} (F : Fun K "_law_mending" "_law_mending" sDLawMending f fd) (T : Blt mg) (c_law_arrows : Cal P w K mg base 1 "_law_arrows" ["_law_rule_here", "_law_lane"] (spQ 2 RArrows)) (c_law_longest : Cal P w K mg base 1 "_law_longest" ["_law_rows", "_law_many"] (spQ 2 RLong)) (c_law_favoured : Cal P w K mg base 1 "_law_favoured" ["_law_rule_here", "_law_lane", "_law_spot"] (spQ 3 RFav)) : FnOk P w K mg base CX0 2 f fd ["_law_rule_here", "_law_lane"] (spQ 2 RMnd) := by
  refine okQ F scDLawMending fun cdv A outer s H E hr => ⟨_, _, (pss_cons (parO01 (ps_par (i := 2) (j := 3) rfl scDLawMending.nd rfl rfl (by decide) rfl rfl (pa_cons (pe_op op_sub (pe_callB (k_lenX (K := K) rfl) rfl T.len bt_len (pa_cons (pv 0) pa_nil)) pe_int) (pa_cons (pe_lst pa_nil) pa_nil)) rfl))
    (pss_cons (ps_for PassesOwn.never rfl (pi_range1 rfl T.range (pa_cons (pv 2) pa_nil)) (pg_name (i := 4) scDLawMending.nd rfl (Or.inl rfl)) (pss_one (ps_if (pt_cmpR ko_notN (pe_cal c_law_longest (hr.mono (by decide)) rfl (pa_cons (pe_cal c_law_arrows (hr.mono (by decide)) rfl (pa_cons (pe_cal c_law_favoured (hr.mono (by decide)) rfl (pa_cons (pv 0) (pa_cons (pv 1) (pa_cons (pe_op (ko_add (K := K) rfl) pe_int (pv 4)) pa_nil)))) (pa_cons (pv 1) pa_nil))) (pa_cons (pv 2) pa_nil))) pe_non (nomark _)) (pss_one (ps_expr (pe_bm PySem.F.plainAttrs_list PySem.F.slot_list_append PySem.F.type_list_append mt_append (pv 3) (pa_cons (pv 4) pa_nil)))) pss_nil)))
    (pss_one (ps_ret (pe_callTy (k_tupX (K := K) rfl) rfl T.tuple bt_tuple (pa_cons (pv 3) pa_nil)))))), inferInstance, fun ss Pd hl hR => ?_⟩
  obtain ⟨n, ps, i, rfl, hR, n6, hi, k⟩ := hR
  simp only [List.map_cons, List.map_nil, List.length_cons, List.length_nil, List.cons_append, List.nil_append, List.replicate_succ, List.replicate_zero, Nat.reduceAdd, Nat.reduceSub]; open_z
  have lps : ps.length = n + 1 := hR.2.1
  have lm : (((ps.map prefD).length : Nat) : Int) - 1 = n := by simp [lps]
  simp only [ruleD, ↓wSeq, ↓wNext, ↓wIfS, ↓wRet, ↓wRetN, ↓wAsg, ↓wDrop, ↓wOp, ↓wUn, ↓wC, ↓wTy, ↓wRef, ↓wB, ↓wAnd, ↓wOr, ↓wNot, ↓wYes, ↓wAndV, ↓wOrV, ↓wNotV, ↓wIf, ↓wChain, ↓wNil, ↓wCons, ↓wTup, ↓wLst, ↓wNoPart, ↓wPart, ↓wSl, ↓wCB, ↓wIt, ↓wRng1, ↓wRng2, ↓wCall, ↓wCallB, ↓wfLst, ↓wfLstOf, ↓wOfF, ↓wForS, ↓wIxm, ↓wRev, ↓wDnew, ↓wRg1, ↓wRg2, ↓wTupRg, ↓wfLstRg, ↓wSeqX, ↓wIfX, ↓wDropX, ↓wRetX, ↓wAsgX, ↓wForX, ↓wCallX, ↓wCallXS, ↓wCall0, ↓wCallS0, ↓wRz1, ↓wRz0, ↓wIfXE, ↓wDispI, ↓wCnt, ↓wXf, ↓wClsT, ↓wgNil, ↓asDs_nil, ↓asDs_cons, ↓asDs_map, ↓asIs_ints, ↓k_var, ↓k_varB, ↓getK_s, ↓getK_d, ↓getK_o, ↓getK_t, ↓getK_r, ↓getB_s, ↓getB_d, ↓getB_o, ↓getB_t, ↓getB_r, ↓getB_w, ↓getO_s, ↓getO_w, ↓setK_s, ↓setK_0, ↓wipeK_n, ↓wipeK_c, ↓k_name, ↓k_lc, ↓k_aug, ↓k_own, ↓k_app, ↓k_rel, ↓k_relX, ↓k_par, ↓k_par3, ↓k_par01, ↓k_par11, ↓k_put, ↓k_appPop, ↓k_try, ↓k_rem, ↓k_lcW, ↓wForW, ↓wForWX, ↓wEnum, ↓rowsD, ↓wStar, ↓wLenSet, ↓wPick, ↓wRun, ↓ite_tt, ↓ite_ff, ↓getB_l, ↓getO2_s, ↓getO2_w, ↓dropK_n, ↓dropK_c, ↓dl1_n, ↓dl1_d, ↓dl1_o, ↓dl1_t, ↓dl1_r, ↓dl1_w, ↓dl1_w2, ↓dl1_l, ↓setAllK_c, ↓setAllK_n, ↓freeK_s, ↓freeK_n, ↓freeK_d, ↓k_ix2, ↓k_app2, ↓k_put2, ↓k_forO, ↓k_parN, ↓k_wpF, ↓k_wpF2, ↓wpE, ↓wfSl, ↓wf2Nil, ↓wGPlain, ↓wG0, ↓wGThen, ↓wGIf, ↓wGYield, ↓wGForS, ↓wLstG, ↓wEnumS, ↓wM1, ↓fCntS, ↓fJoin, ↓fSplit, ↓wRevS, ↓asTs_map, ↓k_tryE, ↓wOpX, ↓asDs_app, ↓fIntS, ↓fInT, ↓wFld, ↓wPropQ, ↓wPropX, ↓wInQ, ↓wIxQ, ↓wMake, ↓wMake0, ↓wEqQ, ↓k_callIQ, ↓wRevT, ↓nE, ↓nT, ↓nA, ↓nI, ↓nOp, ↓nUn, ↓nCons, ↓nTup, ↓nLst, ↓nCB, ↓nB, ↓nAnd, ↓nOr, ↓nNot, ↓nIf, ↓nO, ↓nPart, ↓nIt, ↓nRng1, ↓nRng2, ↓k_nLc, ↓nCall, ↓nS, ↓nSeq, ↓nDrop, ↓nRet, ↓nIfS, ↓nAsg, ↓k_nPar, ↓k_nPar3, ↓k_nParN, ↓wCKw, ↓q_fMaxD, ↓ncomp_lift, ↓nCat, ↓nTimes, ↓k_nFlc, ↓asL2_l, ↓nForS, ↓k_nApp, ↓k_nAppPop, ↓k_nPut, ↓k_nOwn, ↓k_nRel, ↓k_nOpen, ↓nF, ↓nSl, ↓q_fI_1, ↓q_fI0_1, ↓q_fAdd_1, ↓q_fAdd_2, ↓q_fAdd_3, ↓q_fAdd_4, ↓q_fEq_1, ↓q_fNe_1, ↓q_fIn_1, ↓q_fIn_2, ↓q_fIx_1, ↓q_fIx_2, ↓q_fIx_3, ↓q_fIsN_1, ↓q_fU_1, ↓q_asB_1, ↓q_asI_1, ↓q_fSl_1, ↓q_fSl_2, ↓q_fSl_3, ↓q_fLen_1, ↓q_fLen_2, ↓q_fLen_3, ↓q_fLen_4, ↓q_fIsi_1, ↓q_itD_1, ↓q_itD_2, ↓q_itD_3, ↓q_asR1_1, ↓q_asR2_1, ↓q_wgCons_1, ↓q_wgCons_2, ↓q_wgTup_1, ↓q_as2_1, ↓q_as3_1, ↓q_fLstOf_1, ↓q_fLstOf_2, ↓q_fTupOf_1, ↓q_fTupOf_2, ↓q_asD_1, ↓q_fMul_1, ↓q_fMul_2, ↓q_fMul_3, ↓q_fInt_1, ↓q_fInt_2, ↓q_fRepr_1, ↓q_fMin_1, ↓q_fMin_2, ↓q_fAll_1, ↓q_asSeq_1, ↓q_asSeq_2, ↓q_asL_1, ↓q_fNil_1, ↓q_fNil_2, ↓q_fEqS_1, ↓q_fNeS_1, ↓q_asTu_1, ↓q_fSort_1, ↓q_fSort_2, ↓q_fAny_1, ↓q_fMax_1, ↓q_fMax_2, ↓q_fSum_1, ↓q_fStr_1, ↓q_asS_1, ↓q_asS1_1, ↓k_ext, ↓q_exL, ↓q_fMulS, ↓q_fMulT, ↓q_fSortT, ↓fNinT, ↓q_fStr2_1, ↓q_fStr2_2, List.map_cons, List.map_nil, List.length_cons, List.length_nil, List.cons_append, List.nil_append, List.replicate_succ, List.replicate_zero, Option.map_some, Option.map_none, ite_true, ite_false, if_true, if_false, Nat.reduceAdd, Nat.reduceSub, Nat.reduceLeDiff, Bool.false_eq_true, Bool.not_true, Bool.not_false, Bool.true_and, Bool.and_true, Bool.false_and, Bool.and_false, true_and, and_true, Bool.bne_true, Bool.bne_false, Bool.false_bne, Bool.true_bne, bne_self_eq_false, lm]
  refine ⟨by omega, by omega, ?_⟩
  let g := fun q : Int => decide (longD n (favP ps i (1 + q.toNat)) i < n)
  refine for_inv (fun j ρ => ∃ t, ρ = [some (.d (ruleD ps)), some (.d (.int i)), some (.d (.int n)), some (.own ((((upto n).take j).filter g).map .int)), t]) ⟨none, by simp [ruleD]⟩ (fun j x ρ' hx hI N hN => ?_) (fun ρ' hI => ?_)
  · obtain ⟨t, rfl⟩ := hI
    have hj : j < n := by
      have := (List.getElem?_eq_some_iff.mp hx).1
      rwa [rgD_len, Int.toNat_natCast] at this
    have hq : x = .d (.int j) := by
      rw [Int.toNat_natCast, rgD_upto, List.getElem?_map, List.getElem?_map, upto_get hj] at hx
      exact (Option.some.inj hx).symm
    subst hq
    open_z
    have ec : (1 : Int) + (j : Int) = ((1 + j : Nat) : Int) := by omega
    rw [ec]
    have hR2 : RuleOk n (favP ps i (1 + j)) := favP_ok hR hi (by omega)
    refine ⟨n, ps, i, 1 + j, rfl, hR, n6, hi, by omega, ?_⟩
    refine ⟨n, favP ps i (1 + j), i, rfl, hR2, n6, hi, ?_⟩
    refine ⟨n, favP ps i (1 + j), i, rfl, hR2, n6, hi, ?_⟩
    have et : (upto n).take (j + 1) = (upto n).take j ++ [(j : Int)] := by
      rw [List.take_add_one, upto_get hj]
      rfl
    have eg : g (j : Int) = decide (longD n (favP ps i (1 + j)) i < n) := rfl
    by_cases h : longD n (favP ps i (1 + j)) i < n
    · rw [decide_eq_true h] at eg
      rw [if_pos h]
      simp only [↓wSeq, ↓wNext, ↓wIfS, ↓wRet, ↓wRetN, ↓wAsg, ↓wDrop, ↓wOp, ↓wUn, ↓wC, ↓wTy, ↓wRef, ↓wB, ↓wAnd, ↓wOr, ↓wNot, ↓wYes, ↓wAndV, ↓wOrV, ↓wNotV, ↓wIf, ↓wChain, ↓wNil, ↓wCons, ↓wTup, ↓wLst, ↓wNoPart, ↓wPart, ↓wSl, ↓wCB, ↓wIt, ↓wRng1, ↓wRng2, ↓wCall, ↓wCallB, ↓wfLst, ↓wfLstOf, ↓wOfF, ↓wForS, ↓wIxm, ↓wRev, ↓wDnew, ↓wRg1, ↓wRg2, ↓wTupRg, ↓wfLstRg, ↓wSeqX, ↓wIfX, ↓wDropX, ↓wRetX, ↓wAsgX, ↓wForX, ↓wCallX, ↓wCallXS, ↓wCall0, ↓wCallS0, ↓wRz1, ↓wRz0, ↓wIfXE, ↓wDispI, ↓wCnt, ↓wXf, ↓wClsT, ↓wgNil, ↓asDs_nil, ↓asDs_cons, ↓asDs_map, ↓asIs_ints, ↓k_var, ↓k_varB, ↓getK_s, ↓getK_d, ↓getK_o, ↓getK_t, ↓getK_r, ↓getB_s, ↓getB_d, ↓getB_o, ↓getB_t, ↓getB_r, ↓getB_w, ↓getO_s, ↓getO_w, ↓setK_s, ↓setK_0, ↓wipeK_n, ↓wipeK_c, ↓k_name, ↓k_lc, ↓k_aug, ↓k_own, ↓k_app, ↓k_rel, ↓k_relX, ↓k_par, ↓k_par3, ↓k_par01, ↓k_par11, ↓k_put, ↓k_appPop, ↓k_try, ↓k_rem, ↓k_lcW, ↓wForW, ↓wForWX, ↓wEnum, ↓rowsD, ↓wStar, ↓wLenSet, ↓wPick, ↓wRun, ↓ite_tt, ↓ite_ff, ↓getB_l, ↓getO2_s, ↓getO2_w, ↓dropK_n, ↓dropK_c, ↓dl1_n, ↓dl1_d, ↓dl1_o, ↓dl1_t, ↓dl1_r, ↓dl1_w, ↓dl1_w2, ↓dl1_l, ↓setAllK_c, ↓setAllK_n, ↓freeK_s, ↓freeK_n, ↓freeK_d, ↓k_ix2, ↓k_app2, ↓k_put2, ↓k_forO, ↓k_parN, ↓k_wpF, ↓k_wpF2, ↓wpE, ↓wfSl, ↓wf2Nil, ↓wGPlain, ↓wG0, ↓wGThen, ↓wGIf, ↓wGYield, ↓wGForS, ↓wLstG, ↓wEnumS, ↓wM1, ↓fCntS, ↓fJoin, ↓fSplit, ↓wRevS, ↓asTs_map, ↓k_tryE, ↓wOpX, ↓asDs_app, ↓fIntS, ↓fInT, ↓wFld, ↓wPropQ, ↓wPropX, ↓wInQ, ↓wIxQ, ↓wMake, ↓wMake0, ↓wEqQ, ↓k_callIQ, ↓wRevT, ↓nE, ↓nT, ↓nA, ↓nI, ↓nOp, ↓nUn, ↓nCons, ↓nTup, ↓nLst, ↓nCB, ↓nB, ↓nAnd, ↓nOr, ↓nNot, ↓nIf, ↓nO, ↓nPart, ↓nIt, ↓nRng1, ↓nRng2, ↓k_nLc, ↓nCall, ↓nS, ↓nSeq, ↓nDrop, ↓nRet, ↓nIfS, ↓nAsg, ↓k_nPar, ↓k_nPar3, ↓k_nParN, ↓wCKw, ↓q_fMaxD, ↓ncomp_lift, ↓nCat, ↓nTimes, ↓k_nFlc, ↓asL2_l, ↓nForS, ↓k_nApp, ↓k_nAppPop, ↓k_nPut, ↓k_nOwn, ↓k_nRel, ↓k_nOpen, ↓nF, ↓nSl, ↓q_fI_1, ↓q_fI0_1, ↓q_fAdd_1, ↓q_fAdd_2, ↓q_fAdd_3, ↓q_fAdd_4, ↓q_fEq_1, ↓q_fNe_1, ↓q_fIn_1, ↓q_fIn_2, ↓q_fIx_1, ↓q_fIx_2, ↓q_fIx_3, ↓q_fIsN_1, ↓q_fU_1, ↓q_asB_1, ↓q_asI_1, ↓q_fSl_1, ↓q_fSl_2, ↓q_fSl_3, ↓q_fLen_1, ↓q_fLen_2, ↓q_fLen_3, ↓q_fLen_4, ↓q_fIsi_1, ↓q_itD_1, ↓q_itD_2, ↓q_itD_3, ↓q_asR1_1, ↓q_asR2_1, ↓q_wgCons_1, ↓q_wgCons_2, ↓q_wgTup_1, ↓q_as2_1, ↓q_as3_1, ↓q_fLstOf_1, ↓q_fLstOf_2, ↓q_fTupOf_1, ↓q_fTupOf_2, ↓q_asD_1, ↓q_fMul_1, ↓q_fMul_2, ↓q_fMul_3, ↓q_fInt_1, ↓q_fInt_2, ↓q_fRepr_1, ↓q_fMin_1, ↓q_fMin_2, ↓q_fAll_1, ↓q_asSeq_1, ↓q_asSeq_2, ↓q_asL_1, ↓q_fNil_1, ↓q_fNil_2, ↓q_fEqS_1, ↓q_fNeS_1, ↓q_asTu_1, ↓q_fSort_1, ↓q_fSort_2, ↓q_fAny_1, ↓q_fMax_1, ↓q_fMax_2, ↓q_fSum_1, ↓q_fStr_1, ↓q_asS_1, ↓q_asS1_1, ↓k_ext, ↓q_exL, ↓q_fMulS, ↓q_fMulT, ↓q_fSortT, ↓fNinT, ↓q_fStr2_1, ↓q_fStr2_2, List.map_cons, List.map_nil, List.length_cons, List.length_nil, List.cons_append, List.nil_append, List.replicate_succ, List.replicate_zero, Option.map_some, Option.map_none, ite_true, ite_false, if_true, if_false, Nat.reduceAdd, Nat.reduceSub, Nat.reduceLeDiff, Bool.false_eq_true, Bool.not_true, Bool.not_false, Bool.true_and, Bool.and_true, Bool.false_and, Bool.and_false, true_and, and_true, Bool.bne_true, Bool.bne_false, Bool.false_bne, Bool.true_bne, bne_self_eq_false, isNone]
      refine ⟨?_, hN _ ⟨some (.d (.int j)), ?_⟩⟩
      · rw [List.length_map]
        have h1 := List.length_filter_le g ((upto n).take j)
        rw [List.length_take, upto_len] at h1
        omega
      · rw [et, List.filter_append, List.filter_cons, eg]
        simp [ruleD]
    · rw [decide_eq_false h] at eg
      rw [if_neg h]
      simp only [↓wSeq, ↓wNext, ↓wIfS, ↓wRet, ↓wRetN, ↓wAsg, ↓wDrop, ↓wOp, ↓wUn, ↓wC, ↓wTy, ↓wRef, ↓wB, ↓wAnd, ↓wOr, ↓wNot, ↓wYes, ↓wAndV, ↓wOrV, ↓wNotV, ↓wIf, ↓wChain, ↓wNil, ↓wCons, ↓wTup, ↓wLst, ↓wNoPart, ↓wPart, ↓wSl, ↓wCB, ↓wIt, ↓wRng1, ↓wRng2, ↓wCall, ↓wCallB, ↓wfLst, ↓wfLstOf, ↓wOfF, ↓wForS, ↓wIxm, ↓wRev, ↓wDnew, ↓wRg1, ↓wRg2, ↓wTupRg, ↓wfLstRg, ↓wSeqX, ↓wIfX, ↓wDropX, ↓wRetX, ↓wAsgX, ↓wForX, ↓wCallX, ↓wCallXS, ↓wCall0, ↓wCallS0, ↓wRz1, ↓wRz0, ↓wIfXE, ↓wDispI, ↓wCnt, ↓wXf, ↓wClsT, ↓wgNil, ↓asDs_nil, ↓asDs_cons, ↓asDs_map, ↓asIs_ints, ↓k_var, ↓k_varB, ↓getK_s, ↓getK_d, ↓getK_o, ↓getK_t, ↓getK_r, ↓getB_s, ↓getB_d, ↓getB_o, ↓getB_t, ↓getB_r, ↓getB_w, ↓getO_s, ↓getO_w, ↓setK_s, ↓setK_0, ↓wipeK_n, ↓wipeK_c, ↓k_name, ↓k_lc, ↓k_aug, ↓k_own, ↓k_app, ↓k_rel, ↓k_relX, ↓k_par, ↓k_par3, ↓k_par01, ↓k_par11, ↓k_put, ↓k_appPop, ↓k_try, ↓k_rem, ↓k_lcW, ↓wForW, ↓wForWX, ↓wEnum, ↓rowsD, ↓wStar, ↓wLenSet, ↓wPick, ↓wRun, ↓ite_tt, ↓ite_ff, ↓getB_l, ↓getO2_s, ↓getO2_w, ↓dropK_n, ↓dropK_c, ↓dl1_n, ↓dl1_d, ↓dl1_o, ↓dl1_t, ↓dl1_r, ↓dl1_w, ↓dl1_w2, ↓dl1_l, ↓setAllK_c, ↓setAllK_n, ↓freeK_s, ↓freeK_n, ↓freeK_d, ↓k_ix2, ↓k_app2, ↓k_put2, ↓k_forO, ↓k_parN, ↓k_wpF, ↓k_wpF2, ↓wpE, ↓wfSl, ↓wf2Nil, ↓wGPlain, ↓wG0, ↓wGThen, ↓wGIf, ↓wGYield, ↓wGForS, ↓wLstG, ↓wEnumS, ↓wM1, ↓fCntS, ↓fJoin, ↓fSplit, ↓wRevS, ↓asTs_map, ↓k_tryE, ↓wOpX, ↓asDs_app, ↓fIntS, ↓fInT, ↓wFld, ↓wPropQ, ↓wPropX, ↓wInQ, ↓wIxQ, ↓wMake, ↓wMake0, ↓wEqQ, ↓k_callIQ, ↓wRevT, ↓nE, ↓nT, ↓nA, ↓nI, ↓nOp, ↓nUn, ↓nCons, ↓nTup, ↓nLst, ↓nCB, ↓nB, ↓nAnd, ↓nOr, ↓nNot, ↓nIf, ↓nO, ↓nPart, ↓nIt, ↓nRng1, ↓nRng2, ↓k_nLc, ↓nCall, ↓nS, ↓nSeq, ↓nDrop, ↓nRet, ↓nIfS, ↓nAsg, ↓k_nPar, ↓k_nPar3, ↓k_nParN, ↓wCKw, ↓q_fMaxD, ↓ncomp_lift, ↓nCat, ↓nTimes, ↓k_nFlc, ↓asL2_l, ↓nForS, ↓k_nApp, ↓k_nAppPop, ↓k_nPut, ↓k_nOwn, ↓k_nRel, ↓k_nOpen, ↓nF, ↓nSl, ↓q_fI_1, ↓q_fI0_1, ↓q_fAdd_1, ↓q_fAdd_2, ↓q_fAdd_3, ↓q_fAdd_4, ↓q_fEq_1, ↓q_fNe_1, ↓q_fIn_1, ↓q_fIn_2, ↓q_fIx_1, ↓q_fIx_2, ↓q_fIx_3, ↓q_fIsN_1, ↓q_fU_1, ↓q_asB_1, ↓q_asI_1, ↓q_fSl_1, ↓q_fSl_2, ↓q_fSl_3, ↓q_fLen_1, ↓q_fLen_2, ↓q_fLen_3, ↓q_fLen_4, ↓q_fIsi_1, ↓q_itD_1, ↓q_itD_2, ↓q_itD_3, ↓q_asR1_1, ↓q_asR2_1, ↓q_wgCons_1, ↓q_wgCons_2, ↓q_wgTup_1, ↓q_as2_1, ↓q_as3_1, ↓q_fLstOf_1, ↓q_fLstOf_2, ↓q_fTupOf_1, ↓q_fTupOf_2, ↓q_asD_1, ↓q_fMul_1, ↓q_fMul_2, ↓q_fMul_3, ↓q_fInt_1, ↓q_fInt_2, ↓q_fRepr_1, ↓q_fMin_1, ↓q_fMin_2, ↓q_fAll_1, ↓q_asSeq_1, ↓q_asSeq_2, ↓q_asL_1, ↓q_fNil_1, ↓q_fNil_2, ↓q_fEqS_1, ↓q_fNeS_1, ↓q_asTu_1, ↓q_fSort_1, ↓q_fSort_2, ↓q_fAny_1, ↓q_fMax_1, ↓q_fMax_2, ↓q_fSum_1, ↓q_fStr_1, ↓q_asS_1, ↓q_asS1_1, ↓k_ext, ↓q_exL, ↓q_fMulS, ↓q_fMulT, ↓q_fSortT, ↓fNinT, ↓q_fStr2_1, ↓q_fStr2_2, List.map_cons, List.map_nil, List.length_cons, List.length_nil, List.cons_append, List.nil_append, List.replicate_succ, List.replicate_zero, Option.map_some, Option.map_none, ite_true, ite_false, if_true, if_false, Nat.reduceAdd, Nat.reduceSub, Nat.reduceLeDiff, Bool.false_eq_true, Bool.not_true, Bool.not_false, Bool.true_and, Bool.and_true, Bool.false_and, Bool.and_false, true_and, and_true, Bool.bne_true, Bool.bne_false, Bool.false_bne, Bool.true_bne, bne_self_eq_false, isNone]
      refine hN _ ⟨some (.d (.int j)), ?_⟩
      rw [et, List.filter_append, List.filter_cons, eg]
      simp
  · obtain ⟨t, rfl⟩ := hI
    open_z
    rw [rgD_len, Int.toNat_natCast, List.take_of_length_le (by rw [upto_len]; omega)]
    exact k
def isMend (l : PyData) : Bool := PyData.eqv l (.str "mending")
def dueO (c : Nat → Addr) (n : Nat) (ps : List (List Int)) (d l : PyData) : Out := if isMend l = true then mendO c n ps d else favO c n ps d l
def dueD (c : Nat → Addr) (n : Nat) (ps : List (List Int)) (d l : PyData) : PyData := match dueO c n ps d l with
  | .val x => x
  | .err x => .list [.str "lane", (x.f.map (·.2)).getD .none]
def okL (l : PyData) : Prop := shp l = true ∧ shp (.str "mending") = true ∨ ∃ kvs, l = .dict kvs
def RDue (c : Nat → Addr) : RR := fun ss Pd => ∃ (n : Nat) (ps : List (List Int)) (d l : PyData), ss = [.d (ruleD ps), .d d, .d l] ∧ RuleOk n ps ∧ n ≤ 6 ∧ okL l ∧ Pd (.d (dueD c n ps d l))
theorem q_asked {f : Addr} {fd : FuncData} (F : Fun K "_law_asked" "_law_asked" sDLawAsked f fd) (T : Blt mg) (S : Ers P w K mg base c) (cmending : CalX P w K mg base 10 "mending" ["rule", "lane"] (spX 2 (XMend c))) (cfavoured : CalX P w K mg base 5 "favoured" ["rule", "lane", "last"] (spX 3 (XFav c))) (c_law_error : CalE P w K mg base 1 "_law_error" ["_law_error_here"] (fun er cls d => spQ 1 (RErr c er cls d))) : FnOk P w K mg base CX0 11 f fd ["_law_rule_here", "_law_lane", "_law_item"] (spQ 3 (RDue c)) := by
  refine okQ F scDLawAsked fun cdv A outer s H E hr => ⟨_, _, (pss_cons (ps_set (i := 3) scDLawAsked.nd rfl (Or.inl rfl) pe_non)
    (pss_cons (ps_tryE (i := 4) (j := 3) ⟨rfl, rfl, scDLawAsked.nd⟩ ⟨rfl, rfl⟩ ⟨rfl, by decide, .inl S.gPassError⟩ (fun W pn xe tk => pss_one (ps_set (i := 3) scDLawAsked.nd rfl (Or.inl rfl) (pe_ifExp (pt_cmpR (ko_eqT (K := K) rfl hr.units) (pv 2) pe_str (nomark _)) (pe_calS cmending (hr.mono (by decide)) (fun σ => passAt tk σ) rfl (pa_cons (pv 0) (pa_cons (pv 1) pa_nil))) (pe_calS cfavoured (hr.mono (by decide)) (fun σ => passAt tk σ) rfl (pa_cons (pv 0) (pa_cons (pv 1) (pa_cons (pv 2) pa_nil))))))) (fun er oe cls d pn hz hf => (pss_one (ps_set (i := 3) scDLawAsked.nd rfl (Or.inl rfl) (pe_calE c_law_error (hr.mono (by decide)) hz hf rfl (pa_cons (pv 4) pa_nil))))))
    (pss_one (ps_ret (pv 3))))), inferInstance, fun ss Pd hl hR => ?_⟩
  obtain ⟨n, ps, d, l, rfl, hR, n6, hsl, k⟩ := hR
  simp only [List.map_cons, List.map_nil, List.length_cons, List.length_nil, List.cons_append, List.nil_append, List.replicate_succ, List.replicate_zero, Nat.reduceAdd, Nat.reduceSub]; open_z
  refine ⟨hsl, ?_⟩
  open_z
  have exm := S.exm 0 (by decide)
  unfold dueD dueO isMend at k
  cases hm : PyData.eqv l (.str "mending") with
  | true =>
    simp only [hm, if_true] at k ⊢
    refine ⟨n, ps, d, rfl, hR, n6, ?_⟩
    unfold mendO at k ⊢
    cases hd : inR d 0 ((n : Int) - 1) with
    | true =>
      simp only [hd, if_true] at k ⊢
      exact k
    | false =>
      simp only [hd, Bool.false_eq_true, if_false] at k ⊢
      exact ⟨exm, fun er dc => ⟨d, rfl, rfl, k⟩⟩
  | false =>
    simp only [hm, Bool.false_eq_true, if_false] at k ⊢
    refine ⟨n, ps, d, l, rfl, hR, n6, ?_⟩
    unfold favO at k ⊢
    cases hd : inR d 0 ((n : Int) - 1) with
    | true =>
      simp only [hd, if_true] at k ⊢
      cases hl2 : (isNone l || inR l 0 ((n : Int) - 1)) with
      | true =>
        simp only [hl2, if_true] at k ⊢
        exact k
      | false =>
        simp only [hl2, Bool.false_eq_true, if_false] at k ⊢
        exact ⟨exm, fun er dc => ⟨l, rfl, rfl, k⟩⟩
    | false =>
      simp only [hd, Bool.false_eq_true, if_false] at k ⊢
      exact ⟨exm, fun er dc => ⟨d, rfl, rfl, k⟩⟩
theorem q_due {f : Addr} {fd : FuncData} (F : Fun K "_law_due" "_law_due" sDLawDue f fd) (T : Blt mg) (c_law_is_int : Cal P w K mg base 1 "_law_is_int" ["_law_value", "_law_low", "_law_high"] (spQ 3 RWithin)) (c_law_mending : Cal P w K mg base 2 "_law_mending" ["_law_rule_here", "_law_lane"] (spQ 2 RMnd)) (c_law_favoured : Cal P w K mg base 1 "_law_favoured" ["_law_rule_here", "_law_lane", "_law_spot"] (spQ 3 RFav)) : FnOk P w K mg base CX0 3 f fd ["_law_rule_here", "_law_lane", "_law_item"] (spQ 3 (RDue c)) := by
  refine okQ F scDLawDue fun cdv A outer s H E hr => ⟨_, _, (pss_cons (ps_set (i := 3) scDLawDue.nd rfl (Or.inl rfl) (pe_op op_sub (pe_callB (k_lenX (K := K) rfl) rfl T.len bt_len (pa_cons (pv 0) pa_nil)) pe_int))
    (pss_cons (ps_if (pt_not (pt_val (pe_cal c_law_is_int (hr.mono (by decide)) rfl (pa_cons (pv 1) (pa_cons pe_int (pa_cons (pv 3) pa_nil)))))) (pss_one (ps_ret (pe_lst (pa_cons pe_str (pa_cons (pv 1) pa_nil))))) pss_nil)
    (pss_cons (ps_if (pt_cmpR (ko_eqT (K := K) rfl hr.units) (pv 2) pe_str (nomark _)) (pss_one (ps_ret (pe_cal c_law_mending (hr.mono (by decide)) rfl (pa_cons (pv 0) (pa_cons (pv 1) pa_nil))))) pss_nil)
    (pss_cons (ps_if (PW.pt (pw_and (pt_cmpR ko_notN (pv 2) pe_non (nomark _)) (pw_and1 (pt_not (pt_val (pe_cal c_law_is_int (hr.mono (by decide)) rfl (pa_cons (pv 2) (pa_cons pe_int (pa_cons (pv 3) pa_nil))))))))) (pss_one (ps_ret (pe_lst (pa_cons pe_str (pa_cons (pv 2) pa_nil))))) pss_nil)
    (pss_one (ps_ret (pe_cal c_law_favoured (hr.mono (by decide)) rfl (pa_cons (pv 0) (pa_cons (pv 1) (pa_cons (pe_ifExp (pt_cmpR ko_isN (pv 2) pe_non (nomark _)) pe_int (pe_op (ko_add (K := K) rfl) pe_int (pv 2))) pa_nil)))))))))), inferInstance, fun ss Pd hl hR => ?_⟩
  obtain ⟨n, ps, d, l, rfl, hR, n6, hsl, k⟩ := hR
  simp only [List.map_cons, List.map_nil, List.length_cons, List.length_nil, List.cons_append, List.nil_append, List.replicate_succ, List.replicate_zero, Nat.reduceAdd, Nat.reduceSub]; open_z
  have lps : ps.length = n + 1 := hR.2.1
  have e2 : (((ps.map prefD).length : Int) - 2) = (n : Int) - 1 := by rw [List.length_map]; omega
  simp only [ruleD, ↓wSeq, ↓wNext, ↓wIfS, ↓wRet, ↓wRetN, ↓wAsg, ↓wDrop, ↓wOp, ↓wUn, ↓wC, ↓wTy, ↓wRef, ↓wB, ↓wAnd, ↓wOr, ↓wNot, ↓wYes, ↓wAndV, ↓wOrV, ↓wNotV, ↓wIf, ↓wChain, ↓wNil, ↓wCons, ↓wTup, ↓wLst, ↓wNoPart, ↓wPart, ↓wSl, ↓wCB, ↓wIt, ↓wRng1, ↓wRng2, ↓wCall, ↓wCallB, ↓wfLst, ↓wfLstOf, ↓wOfF, ↓wForS, ↓wIxm, ↓wRev, ↓wDnew, ↓wRg1, ↓wRg2, ↓wTupRg, ↓wfLstRg, ↓wSeqX, ↓wIfX, ↓wDropX, ↓wRetX, ↓wAsgX, ↓wForX, ↓wCallX, ↓wCallXS, ↓wCall0, ↓wCallS0, ↓wRz1, ↓wRz0, ↓wIfXE, ↓wDispI, ↓wCnt, ↓wXf, ↓wClsT, ↓wgNil, ↓asDs_nil, ↓asDs_cons, ↓asDs_map, ↓asIs_ints, ↓k_var, ↓k_varB, ↓getK_s, ↓getK_d, ↓getK_o, ↓getK_t, ↓getK_r, ↓getB_s, ↓getB_d, ↓getB_o, ↓getB_t, ↓getB_r, ↓getB_w, ↓getO_s, ↓getO_w, ↓setK_s, ↓setK_0, ↓wipeK_n, ↓wipeK_c, ↓k_name, ↓k_lc, ↓k_aug, ↓k_own, ↓k_app, ↓k_rel, ↓k_relX, ↓k_par, ↓k_par3, ↓k_par01, ↓k_par11, ↓k_put, ↓k_appPop, ↓k_try, ↓k_rem, ↓k_lcW, ↓wForW, ↓wForWX, ↓wEnum, ↓rowsD, ↓wStar, ↓wLenSet, ↓wPick, ↓wRun, ↓ite_tt, ↓ite_ff, ↓getB_l, ↓getO2_s, ↓getO2_w, ↓dropK_n, ↓dropK_c, ↓dl1_n, ↓dl1_d, ↓dl1_o, ↓dl1_t, ↓dl1_r, ↓dl1_w, ↓dl1_w2, ↓dl1_l, ↓setAllK_c, ↓setAllK_n, ↓freeK_s, ↓freeK_n, ↓freeK_d, ↓k_ix2, ↓k_app2, ↓k_put2, ↓k_forO, ↓k_parN, ↓k_wpF, ↓k_wpF2, ↓wpE, ↓wfSl, ↓wf2Nil, ↓wGPlain, ↓wG0, ↓wGThen, ↓wGIf, ↓wGYield, ↓wGForS, ↓wLstG, ↓wEnumS, ↓wM1, ↓fCntS, ↓fJoin, ↓fSplit, ↓wRevS, ↓asTs_map, ↓k_tryE, ↓wOpX, ↓asDs_app, ↓fIntS, ↓fInT, ↓wFld, ↓wPropQ, ↓wPropX, ↓wInQ, ↓wIxQ, ↓wMake, ↓wMake0, ↓wEqQ, ↓k_callIQ, ↓wRevT, ↓nE, ↓nT, ↓nA, ↓nI, ↓nOp, ↓nUn, ↓nCons, ↓nTup, ↓nLst, ↓nCB, ↓nB, ↓nAnd, ↓nOr, ↓nNot, ↓nIf, ↓nO, ↓nPart, ↓nIt, ↓nRng1, ↓nRng2, ↓k_nLc, ↓nCall, ↓nS, ↓nSeq, ↓nDrop, ↓nRet, ↓nIfS, ↓nAsg, ↓k_nPar, ↓k_nPar3, ↓k_nParN, ↓wCKw, ↓q_fMaxD, ↓ncomp_lift, ↓nCat, ↓nTimes, ↓k_nFlc, ↓asL2_l, ↓nForS, ↓k_nApp, ↓k_nAppPop, ↓k_nPut, ↓k_nOwn, ↓k_nRel, ↓k_nOpen, ↓nF, ↓nSl, ↓q_fI_1, ↓q_fI0_1, ↓q_fAdd_1, ↓q_fAdd_2, ↓q_fAdd_3, ↓q_fAdd_4, ↓q_fEq_1, ↓q_fNe_1, ↓q_fIn_1, ↓q_fIn_2, ↓q_fIx_1, ↓q_fIx_2, ↓q_fIx_3, ↓q_fIsN_1, ↓q_fU_1, ↓q_asB_1, ↓q_asI_1, ↓q_fSl_1, ↓q_fSl_2, ↓q_fSl_3, ↓q_fLen_1, ↓q_fLen_2, ↓q_fLen_3, ↓q_fLen_4, ↓q_fIsi_1, ↓q_itD_1, ↓q_itD_2, ↓q_itD_3, ↓q_asR1_1, ↓q_asR2_1, ↓q_wgCons_1, ↓q_wgCons_2, ↓q_wgTup_1, ↓q_as2_1, ↓q_as3_1, ↓q_fLstOf_1, ↓q_fLstOf_2, ↓q_fTupOf_1, ↓q_fTupOf_2, ↓q_asD_1, ↓q_fMul_1, ↓q_fMul_2, ↓q_fMul_3, ↓q_fInt_1, ↓q_fInt_2, ↓q_fRepr_1, ↓q_fMin_1, ↓q_fMin_2, ↓q_fAll_1, ↓q_asSeq_1, ↓q_asSeq_2, ↓q_asL_1, ↓q_fNil_1, ↓q_fNil_2, ↓q_fEqS_1, ↓q_fNeS_1, ↓q_asTu_1, ↓q_fSort_1, ↓q_fSort_2, ↓q_fAny_1, ↓q_fMax_1, ↓q_fMax_2, ↓q_fSum_1, ↓q_fStr_1, ↓q_asS_1, ↓q_asS1_1, ↓k_ext, ↓q_exL, ↓q_fMulS, ↓q_fMulT, ↓q_fSortT, ↓fNinT, ↓q_fStr2_1, ↓q_fStr2_2, List.map_cons, List.map_nil, List.length_cons, List.length_nil, List.cons_append, List.nil_append, List.replicate_succ, List.replicate_zero, Option.map_some, Option.map_none, ite_true, ite_false, if_true, if_false, Nat.reduceAdd, Nat.reduceSub, Nat.reduceLeDiff, Bool.false_eq_true, Bool.not_true, Bool.not_false, Bool.true_and, Bool.and_true, Bool.false_and, Bool.and_false, true_and, and_true, Bool.bne_true, Bool.bne_false, Bool.false_bne, Bool.true_bne, bne_self_eq_false, e2]
  refine ⟨d, _, _, rfl, ?_⟩
  open_z
  unfold dueD dueO isMend mendO favO at k
  cases hd : inR d 0 ((n : Int) - 1) with
  | false =>
    simp only [hd, Bool.false_eq_true, if_false, Bool.not_false, if_true, ite_self] at k ⊢
    exact k
  | true =>
    simp only [hd, if_true, Bool.not_true, Bool.false_eq_true, if_false] at k ⊢
    refine ⟨hsl, ?_⟩
    open_z
    cases d with
    | int i =>
      have hi : 0 ≤ i ∧ i < n := by
        simp only [inR, Bool.and_eq_true, decide_eq_true_eq] at hd
        omega
      cases hm : PyData.eqv l (.str "mending") with
      | true =>
        simp only [hm, if_true] at k ⊢
        exact ⟨n, ps, i, rfl, hR, n6, hi, k⟩
      | false =>
        simp only [hm, Bool.false_eq_true, if_false] at k ⊢
        cases hz : isNone l with
        | true =>
          have e : l = .none := by cases l <;> first | rfl | cases hz
          subst e
          simp only [hz, Bool.true_or, if_true, Bool.not_true, Bool.false_eq_true, if_false] at k ⊢
          exact ⟨n, ps, i, 0, rfl, hR, n6, hi, by omega, k⟩
        | false =>
          simp only [hz, Bool.false_or, Bool.false_eq_true, if_false, Bool.not_false, if_true] at k ⊢
          refine ⟨l, _, _, rfl, ?_⟩
          open_z
          cases hl2 : inR l 0 ((n : Int) - 1) with
          | false =>
            simp only [hl2, Bool.false_eq_true, if_false, Bool.not_false, if_true] at k ⊢
            exact k
          | true =>
            simp only [hl2, if_true, Bool.not_true, Bool.false_eq_true, if_false] at k ⊢
            cases l with
            | int j =>
              have hj : 0 ≤ j ∧ j < n := by
                simp only [inR, Bool.and_eq_true, decide_eq_true_eq] at hl2
                omega
              obtain ⟨m, rfl⟩ : ∃ m : Nat, j = m := ⟨j.toNat, by omega⟩
              have ec : (1 : Int) + (m : Int) = ((1 + m : Nat) : Int) := by omega
              open_z
              rw [ec]
              exact ⟨n, ps, i, 1 + m, rfl, hR, n6, hi, by omega, k⟩
            | _ => cases hl2
    | _ => cases hd
end
end Lr

namespace Lr
open PySem L2
abbrev sLaw : Stmt := topS 39
abbrev nLaw : List Str := ["_law_script", "_law_loom_here", "_law_turn", "_law_rule_here", "_law_many", "_law_shown", "_law_lane", "_law_item", "_law_due_here"]
theorem scLaw : FnScope nLaw ["_law_script"] (defScope sLaw) :=
  ⟨rfl, rfl, rfl, by decide +kernel, rfl, by decide +kernel, by decide +kernel⟩
section
variable {P : Program} {w : World} {K : PySem.W.Frag} {mg : Str → Option Value} {base : Heap} {c : Nat → Addr}
def shB (d : PyData) : Bool := d.showable && decide (d.shown.length ≤ 60) && decide (d.depth ≤ 2)
theorem shB_of {d : PyData} (h : shB d = true) : Sh 60 2 d := by
  unfold shB at h
  simp only [Bool.and_eq_true, decide_eq_true_eq] at h
  exact ⟨h.1.1, h.1.2, h.2⟩
theorem odd_s : ∀ d ∈ oddN, Sh 60 2 d := fun d h => shB_of ((List.all_eq_true.mp (show oddN.all shB = true by decide +kernel)) d h)
def dicB (d : PyData) : Bool := match d with | .dict _ => true | _ => false
theorem odd_l : ∀ d ∈ oddN, okL d := fun d h => by
  have q := (List.all_eq_true.mp (show oddN.all (fun d => shp d || dicB d) = true by decide +kernel)) d h
  rcases Bool.or_eq_true_iff.mp q with q | q
  · exact .inl ⟨q, by decide +kernel⟩
  · cases d with
    | dict kvs => exact .inr ⟨kvs, rfl⟩
    | _ => cases q
theorem rule_big {n : Nat} {ps : List (List Int)} (hR : RuleOk n ps) (hn : n ≤ 6) : Sh 100000 6 (ruleD ps) := by
  refine (sh_tup (m := 6 * 22 + 3) (k := 1) (c := 7) (fun e he => ?_) (by rw [List.length_map, hR.2.1]; omega)).mono (by decide) (by decide)
  obtain ⟨p, hp, rfl⟩ := List.mem_map.mp he
  have q := hR.2.2 p hp
  exact ints_sh (c := 6) (fun x hx => by have := mem_upto.mp (q.mem_iff.mp hx); omega) (by rw [q.length_eq, upto_len]; exact hn)
theorem due_s {n : Nat} {ps : List (List Int)} (hR : RuleOk n ps) (hn : n ≤ 6) {d l : PyData} (hd : Sh 60 2 d) (hl : Sh 60 2 l) : Fit (dueD c n ps d l) := by
  have lane : ∀ v : PyData, Sh 60 2 v → Fit (.list [.str "lane", v]) := fun v hv => (sh_lst (m := 60) (k := 2) (c := 2) (fun e h => by
    simp only [List.mem_cons, List.not_mem_nil, or_false] at h
    rcases h with rfl | rfl
    · exact shB_of (by decide +kernel)
    · exact hv) (by simp)).fit (by decide) (by decide)
  have non : Fit .none := (shB_of (d := .none) (by decide +kernel)).fit (by decide) (by decide)
  unfold dueD dueO mendO favO
  cases hm : isMend l with
  | true =>
    cases h1 : inR d 0 ((n : Int) - 1) with
    | true =>
      cases d with
      | int i =>
        simp only [if_true]
        unfold mendD
        exact (ints_sh (c := 6) (fun x hx => by have := mem_upto.mp (List.mem_filter.mp hx).1; omega) (by
          have := List.length_filter_le (fun q => decide (longD n (favP ps i (1 + q.toNat)) i < n)) (upto n)
          rw [upto_len] at this
          omega)).fit (by decide) (by decide)
      | _ => exact non
    | false => exact lane d hd
  | false =>
    cases h1 : inR d 0 ((n : Int) - 1) with
    | true =>
      cases h2 : (isNone l || inR l 0 ((n : Int) - 1)) with
      | true =>
        cases d with
        | int i =>
          have hi : 0 ≤ i ∧ i < n := by
            simp only [inR, Bool.and_eq_true, decide_eq_true_eq] at h1
            omega
          have hk : spotD l ≤ n := by
            cases l with
            | int j =>
              simp only [isNone, Bool.false_or, inR, Bool.and_eq_true, decide_eq_true_eq] at h2
              show 1 + j.toNat ≤ n
              omega
            | _ => exact Nat.zero_le _
          exact (rule_big (favP_ok hR hi hk) hn).fit (by decide) (by decide)
        | _ => exact non
      | false => exact lane l hl
    | false => exact lane d hd
theorem q_law {f : Addr} {fd : FuncData} (F : Fun K "law" "law" sLaw f fd) (T : Blt mg) (hs : HasSys base)
    (c_law_loom : Cal P w K mg base 1 "_law_loom" ["_law_script"] (spLm (FLoom P w) K)) (c_law_rule : Cal P w K mg base 3 "_law_rule" ["_law_loom_here", "_law_top"] (spC (FLoom P w) 2 RRule))
    (c_law_odd : Cal P w K mg base 2 "_law_odd" ["_law_loom_here"] (spC (FLoom P w) 1 ROdd))
    (c_law_asked : Cal P w K mg base 11 "_law_asked" ["_law_rule_here", "_law_lane", "_law_item"] (spQ 3 (RDue c)))
    (c_law_due : Cal P w K mg base 3 "_law_due" ["_law_rule_here", "_law_lane", "_law_item"] (spQ 3 (RDue c))) : FnG P w K mg base 12 f fd ["_law_script"] (spQ 1 (RLaw K)) := by
  refine okG F scLaw fun cdv A outer s H E hr hg => ⟨_, _, (pss_cons (ps_set (i := 1) scLaw.nd rfl (Or.inl rfl) (pe_cal c_law_loom (hr.mono (by decide)) rfl (pa_cons (pv 0) pa_nil)))
    (pss_cons (ps_for PassesOwn.never rfl (pi_range1 rfl T.range (pa_cons pe_int pa_nil)) (pg_name (i := 2) scLaw.nd rfl (Or.inl rfl)) (pss_cons (ps_set (i := 3) scLaw.nd rfl (Or.inl rfl) (pe_cal c_law_rule (hr.mono (by decide)) rfl (pa_cons (pv 1) (pa_cons (pe_ix (kx_X (K := K) rfl) (pe_lst (pa_cons pe_int (pa_cons pe_int pa_nil))) (pe_op op_mod (pv 2) pe_int) (fun _ _ => rfl)) pa_nil))))
      (pss_cons (ps_par (i := 4) (j := 5) rfl scLaw.nd rfl rfl (by decide) rfl rfl (pa_cons (pe_op op_sub (pe_callB (k_lenX (K := K) rfl) rfl T.len bt_len (pa_cons (pv 3) pa_nil)) pe_int) (pa_cons (pe_callB (call_reprS hg hr.units hs) rfl T.repr bt_repr (pa_cons (pv 3) pa_nil)) pa_nil)) rfl)
      (pss_one (ps_for PassesOwn.never rfl (ki_any (K := K) rfl (pe_op (ko_add (K := K) rfl) (pe_listRg rfl rfl T.list (prg_1 rfl T.range (pv 4))) (pe_lst (pa_cons (pv 4) (pa_cons pe_bl (pa_cons pe_non (pa_cons (pe_cal c_law_odd (hr.mono (by decide)) rfl (pa_cons (pv 1) pa_nil)) pa_nil))))))) (pg_name (i := 6) scLaw.nd rfl (Or.inl rfl)) (pss_one (ps_for PassesOwn.never rfl (ki_any (K := K) rfl (pe_op (ko_add (K := K) rfl) (pe_listRg rfl rfl T.list (prg_1 rfl T.range (pv 4))) (pe_lst (pa_cons pe_non (pa_cons pe_str (pa_cons (pv 4) (pa_cons (pe_un un_neg pe_int) (pa_cons pe_bl (pa_cons pe_str (pa_cons (pe_cal c_law_odd (hr.mono (by decide)) rfl (pa_cons (pv 1) pa_nil)) pa_nil)))))))))) (pg_name (i := 7) scLaw.nd rfl (Or.inl rfl)) (pss_cons (ps_set (i := 8) scLaw.nd rfl (Or.inl rfl) (pe_cal c_law_due (hr.mono (by decide)) rfl (pa_cons (pv 3) (pa_cons (pv 6) (pa_cons (pv 7) pa_nil)))))
          (pss_one (ps_if (PW.pt (pw_or (pt_cmpR op_ne (pe_callB (call_reprS hg hr.units hs) rfl T.repr bt_repr (pa_cons (pe_cal c_law_asked (hr.mono (by decide)) rfl (pa_cons (pv 3) (pa_cons (pv 6) (pa_cons (pv 7) pa_nil)))) pa_nil)) (pe_callB (call_reprS hg hr.units hs) rfl T.repr bt_repr (pa_cons (pv 8) pa_nil)) (nomark _)) (pw_or1 (pt_cmpR op_ne (pe_callB (call_reprS hg hr.units hs) rfl T.repr bt_repr (pa_cons (pv 3) pa_nil)) (pv 5) (nomark _))))) (pss_one (ps_ret pe_bl)) pss_nil))))))))))
    (pss_one (ps_ret pe_bl)))), inferInstance, fun ss Pd hl hR => ?_⟩
  obtain ⟨rfl, k⟩ := hR
  simp only [List.map_cons, List.map_nil, List.length_cons, List.length_nil, List.cons_append, List.nil_append, List.replicate_succ, List.replicate_zero, Nat.reduceAdd, Nat.reduceSub]; open_z
  refine fun D => ⟨by decide, by decide, ?_⟩
  refine nfor_inv (fun i m ρ => m ≤ 300 * i ∧ ∃ a2 a3 a4 a5 a6 a7 a8, ρ = [some (.o (scrM K)), some (.ref D.D.c), a2, a3, a4, a5, a6, a7, a8]) ⟨by omega, _, _, _, _, _, _, _, rfl⟩ ?_ ?_
  rotate_left
  · rintro m _ ⟨_, a2, a3, a4, a5, a6, a7, a8, rfl⟩
    exact k
  rintro i x m _ hx ⟨hm, a2, a3, a4, a5, a6, a7, a8, rfl⟩ N hN
  have hi : i < 6 := by
    have := (List.getElem?_eq_some_iff.mp hx).1
    rwa [rgD_len] at this
  obtain ⟨t, rfl, ht⟩ : ∃ t : Int, x = .d (.int t) ∧ 0 ≤ t := by
    rw [rgD_upto] at hx
    have hm := List.mem_of_getElem? hx
    obtain ⟨d, hd, rfl⟩ := List.mem_map.mp hm
    obtain ⟨t, ht, rfl⟩ := List.mem_map.mp hd
    exact ⟨t, rfl, (mem_upto.mp ht).1⟩
  open_z
  obtain ⟨u, e6, u1, u6⟩ : ∃ u : Int, atI [PyData.int 6, PyData.int 3] (t % 2) = some (.int u) ∧ 1 ≤ u ∧ u ≤ 6 := by
    rcases (show t % 2 = 0 ∨ t % 2 = 1 by omega) with h | h
    · rw [h]; exact ⟨6, rfl, by decide, by decide⟩
    · rw [h]; exact ⟨3, rfl, by decide, by decide⟩
  refine ⟨by decide, _, e6, ?_⟩
  have tN : topN = 1000000000000 := rfl
  refine ⟨u, rfl, u1, u6, by omega, fun n1 n ps hn1 hnu hR => ?_⟩
  have n6 : n ≤ 6 := by omega
  have lps : ps.length = n + 1 := hR.2.1
  have n0 := hR.1
  have lm : (((ps.map prefD).length : Nat) : Int) - 1 = n := by simp [lps]
  have rb := (rule_big hR n6).fit (by decide) (by decide)
  unfold ruleD at rb ⊢
  simp only [↓wSeq, ↓wNext, ↓wIfS, ↓wRet, ↓wRetN, ↓wAsg, ↓wDrop, ↓wOp, ↓wUn, ↓wC, ↓wTy, ↓wRef, ↓wB, ↓wAnd, ↓wOr, ↓wNot, ↓wYes, ↓wAndV, ↓wOrV, ↓wNotV, ↓wIf, ↓wChain, ↓wNil, ↓wCons, ↓wTup, ↓wLst, ↓wNoPart, ↓wPart, ↓wSl, ↓wCB, ↓wIt, ↓wRng1, ↓wRng2, ↓wCall, ↓wCallB, ↓wfLst, ↓wfLstOf, ↓wOfF, ↓wForS, ↓wIxm, ↓wRev, ↓wDnew, ↓wRg1, ↓wRg2, ↓wTupRg, ↓wfLstRg, ↓wSeqX, ↓wIfX, ↓wDropX, ↓wRetX, ↓wAsgX, ↓wForX, ↓wCallX, ↓wCallXS, ↓wCall0, ↓wCallS0, ↓wRz1, ↓wRz0, ↓wIfXE, ↓wDispI, ↓wCnt, ↓wXf, ↓wClsT, ↓wgNil, ↓asDs_nil, ↓asDs_cons, ↓asDs_map, ↓asIs_ints, ↓k_var, ↓k_varB, ↓getK_s, ↓getK_d, ↓getK_o, ↓getK_t, ↓getK_r, ↓getB_s, ↓getB_d, ↓getB_o, ↓getB_t, ↓getB_r, ↓getB_w, ↓getO_s, ↓getO_w, ↓setK_s, ↓setK_0, ↓wipeK_n, ↓wipeK_c, ↓k_name, ↓k_lc, ↓k_aug, ↓k_own, ↓k_app, ↓k_rel, ↓k_relX, ↓k_par, ↓k_par3, ↓k_par01, ↓k_par11, ↓k_put, ↓k_appPop, ↓k_try, ↓k_rem, ↓k_lcW, ↓wForW, ↓wForWX, ↓wEnum, ↓rowsD, ↓wStar, ↓wLenSet, ↓wPick, ↓wRun, ↓ite_tt, ↓ite_ff, ↓getB_l, ↓getO2_s, ↓getO2_w, ↓dropK_n, ↓dropK_c, ↓dl1_n, ↓dl1_d, ↓dl1_o, ↓dl1_t, ↓dl1_r, ↓dl1_w, ↓dl1_w2, ↓dl1_l, ↓setAllK_c, ↓setAllK_n, ↓freeK_s, ↓freeK_n, ↓freeK_d, ↓k_ix2, ↓k_app2, ↓k_put2, ↓k_forO, ↓k_parN, ↓k_wpF, ↓k_wpF2, ↓wpE, ↓wfSl, ↓wf2Nil, ↓wGPlain, ↓wG0, ↓wGThen, ↓wGIf, ↓wGYield, ↓wGForS, ↓wLstG, ↓wEnumS, ↓wM1, ↓fCntS, ↓fJoin, ↓fSplit, ↓wRevS, ↓asTs_map, ↓k_tryE, ↓wOpX, ↓asDs_app, ↓fIntS, ↓fInT, ↓wFld, ↓wPropQ, ↓wPropX, ↓wInQ, ↓wIxQ, ↓wMake, ↓wMake0, ↓wEqQ, ↓k_callIQ, ↓wRevT, ↓nE, ↓nT, ↓nA, ↓nI, ↓nOp, ↓nUn, ↓nCons, ↓nTup, ↓nLst, ↓nCB, ↓nB, ↓nAnd, ↓nOr, ↓nNot, ↓nIf, ↓nO, ↓nPart, ↓nIt, ↓nRng1, ↓nRng2, ↓k_nLc, ↓nCall, ↓nS, ↓nSeq, ↓nDrop, ↓nRet, ↓nIfS, ↓nAsg, ↓k_nPar, ↓k_nPar3, ↓k_nParN, ↓wCKw, ↓q_fMaxD, ↓ncomp_lift, ↓nCat, ↓nTimes, ↓k_nFlc, ↓asL2_l, ↓nForS, ↓k_nApp, ↓k_nAppPop, ↓k_nPut, ↓k_nOwn, ↓k_nRel, ↓k_nOpen, ↓nF, ↓nSl, ↓q_fI_1, ↓q_fI0_1, ↓q_fAdd_1, ↓q_fAdd_2, ↓q_fAdd_3, ↓q_fAdd_4, ↓q_fEq_1, ↓q_fNe_1, ↓q_fIn_1, ↓q_fIn_2, ↓q_fIx_1, ↓q_fIx_2, ↓q_fIx_3, ↓q_fIsN_1, ↓q_fU_1, ↓q_asB_1, ↓q_asI_1, ↓q_fSl_1, ↓q_fSl_2, ↓q_fSl_3, ↓q_fLen_1, ↓q_fLen_2, ↓q_fLen_3, ↓q_fLen_4, ↓q_fIsi_1, ↓q_itD_1, ↓q_itD_2, ↓q_itD_3, ↓q_asR1_1, ↓q_asR2_1, ↓q_wgCons_1, ↓q_wgCons_2, ↓q_wgTup_1, ↓q_as2_1, ↓q_as3_1, ↓q_fLstOf_1, ↓q_fLstOf_2, ↓q_fTupOf_1, ↓q_fTupOf_2, ↓q_asD_1, ↓q_fMul_1, ↓q_fMul_2, ↓q_fMul_3, ↓q_fInt_1, ↓q_fInt_2, ↓q_fRepr_1, ↓q_fMin_1, ↓q_fMin_2, ↓q_fAll_1, ↓q_asSeq_1, ↓q_asSeq_2, ↓q_asL_1, ↓q_fNil_1, ↓q_fNil_2, ↓q_fEqS_1, ↓q_fNeS_1, ↓q_asTu_1, ↓q_fSort_1, ↓q_fSort_2, ↓q_fAny_1, ↓q_fMax_1, ↓q_fMax_2, ↓q_fSum_1, ↓q_fStr_1, ↓q_asS_1, ↓q_asS1_1, ↓k_ext, ↓q_exL, ↓q_fMulS, ↓q_fMulT, ↓q_fSortT, ↓fNinT, ↓q_fStr2_1, ↓q_fStr2_2, List.map_cons, List.map_nil, List.length_cons, List.length_nil, List.cons_append, List.nil_append, List.replicate_succ, List.replicate_zero, Option.map_some, Option.map_none, ite_true, ite_false, if_true, if_false, Nat.reduceAdd, Nat.reduceSub, Nat.reduceLeDiff, Bool.false_eq_true, Bool.not_true, Bool.not_false, Bool.true_and, Bool.and_true, Bool.false_and, Bool.and_false, true_and, and_true, Bool.bne_true, Bool.bne_false, Bool.false_bne, Bool.true_bne, bne_self_eq_false, lm]
  refine ⟨rb, ?_⟩
  refine ⟨⟨by omega, by omega, by omega, by omega⟩, rfl, by omega, fun od hod => ?_⟩
  open_z
  rw [rgI_upto]
  refine ⟨by rw [List.length_map, upto_len]; omega, ?_⟩
  refine nfor_inv (fun j m' ρ => m' ≤ n1 + 1 + 1 * j ∧ ∃ a2 a6 a7 a8, ρ = [some (.o (scrM K)), some (.ref D.D.c), a2, some (.d (.tuple (ps.map prefD))), some (.d (.int n)), some (.d (.str (PyData.tuple (ps.map prefD)).shown)), a6, a7, a8]) ⟨by omega, _, _, _, _, rfl⟩ ?_ ?_
  rotate_left
  · rintro m' _ ⟨hm', a2, a6, a7, a8, rfl⟩
    refine hN _ _ ⟨?_, _, _, _, _, _, _, _, rfl⟩
    rw [List.length_map, List.length_append, List.length_map, upto_len] at hm'
    simp only [List.length_cons, List.length_nil] at hm'
    omega
  rintro j z m' _ hz ⟨hm', a2, a6, a7, a8, rfl⟩ N2 hN2
  have hj : j < n + 4 := by
    have := (List.getElem?_eq_some_iff.mp hz).1
    rw [List.length_map, List.length_append, List.length_map, upto_len] at this
    simpa using this
  obtain ⟨d, rfl, hd⟩ : ∃ d, z = .d d ∧ Sh 60 2 d := by
    have all : ∀ d ∈ (upto n).map PyData.int ++ [.int n, .bool true, .none, od], Sh 60 2 d := fun d hd => by
      simp only [List.mem_append, List.mem_map, List.mem_cons, List.not_mem_nil, or_false] at hd
      rcases hd with ⟨i, hi, rfl⟩ | rfl | rfl | rfl | rfl
      · exact (int_sh (by have := mem_upto.mp hi; omega)).mono (by decide) (by decide)
      · exact (int_sh (by omega)).mono (by decide) (by decide)
      · exact shB_of (by decide +kernel)
      · exact shB_of (by decide +kernel)
      · exact odd_s _ hod
    obtain ⟨d, hm, rfl⟩ := List.mem_map.mp (List.mem_of_getElem? hz)
    exact ⟨d, rfl, all d hm⟩
  open_z
  refine ⟨⟨by omega, by omega, by omega, by omega⟩, rfl, by omega, fun od2 hod2 => ?_⟩
  open_z
  rw [rgI_upto]
  refine ⟨by rw [List.length_map, upto_len]; omega, ?_⟩
  refine nfor_inv (fun e m2 ρ => m2 = m' + 1 ∧ ∃ a2 a7 a8, ρ = [some (.o (scrM K)), some (.ref D.D.c), a2, some (.d (.tuple (ps.map prefD))), some (.d (.int n)), some (.d (.str (PyData.tuple (ps.map prefD)).shown)), some (.d d), a7, a8]) ⟨rfl, _, _, _, rfl⟩ ?_ ?_
  rotate_left
  · rintro m2 _ ⟨rfl, a2, a7, a8, rfl⟩
    exact hN2 _ _ ⟨by omega, _, _, _, _, rfl⟩
  rintro e z m2 _ hz ⟨rfl, a2, a7, a8, rfl⟩ N3 hN3
  obtain ⟨l, rfl, hl, hk⟩ : ∃ l, z = .d l ∧ Sh 60 2 l ∧ okL l := by
    have mend : shp (.str "mending") = true := by decide +kernel
    have all : ∀ d ∈ (upto n).map PyData.int ++ [.none, .str "mending", .int n, .int (-1), .bool false, .str "0", od2], Sh 60 2 d ∧ okL d := fun d hd => by
      simp only [List.mem_append, List.mem_map, List.mem_cons, List.not_mem_nil, or_false] at hd
      rcases hd with ⟨i, hi, rfl⟩ | rfl | rfl | rfl | rfl | rfl | rfl | rfl
      · exact ⟨(int_sh (by have := mem_upto.mp hi; omega)).mono (by decide) (by decide), .inl ⟨shp_int _, mend⟩⟩
      · exact ⟨shB_of (by decide +kernel), .inl ⟨rfl, mend⟩⟩
      · exact ⟨shB_of (by decide +kernel), .inl ⟨mend, mend⟩⟩
      · exact ⟨(int_sh (by omega)).mono (by decide) (by decide), .inl ⟨shp_int _, mend⟩⟩
      · exact ⟨shB_of (by decide +kernel), .inl ⟨shp_int _, mend⟩⟩
      · exact ⟨shB_of (by decide +kernel), .inl ⟨shp_bool _, mend⟩⟩
      · exact ⟨shB_of (by decide +kernel), .inl ⟨by decide +kernel, mend⟩⟩
      · exact ⟨odd_s _ hod2, odd_l _ hod2⟩
    obtain ⟨d, hm, rfl⟩ := List.mem_map.mp (List.mem_of_getElem? hz)
    exact ⟨d, rfl, all d hm⟩
  have hdue : ∀ {Q : SV → Prop}, Q (.d (dueD c n ps d l)) → RDue c [.d (.tuple (ps.map prefD)), .d d, .d l] Q := fun q => ⟨n, ps, d, l, rfl, hR, n6, hk, q⟩
  have fd := due_s (c := c) hR n6 hd hl
  open_z
  refine hdue ?_
  open_z
  refine hdue ?_
  open_z
  refine ⟨fd, fd, ?_⟩
  rw [if_neg (by simp)]
  refine ⟨rb, ?_⟩
  rw [if_neg (by simp)]
  exact hN3 _ _ ⟨rfl, _, _, _, rfl⟩
end
end Lr

namespace Lr
open PySem L2
abbrev siNoLane : Stmt := inClass (topS 6) 0
theorem sciNoLane : FnScope ["self", "value"] ["self", "value"] (defScope siNoLane) := ⟨rfl, rfl, rfl, by decide +kernel, rfl, by decide +kernel, by decide +kernel⟩
theorem ok_iNoLane {P : Program} {w : World} {K : PySem.W.Frag} {mg : Str → Option Value} {base : Heap} {f : Addr} {fd : FuncData} (F : Fun K "__init__" "NoLane.__init__" siNoLane f fd) : FnOk P w K mg base CX0 1 f fd ["self", "value"] (spInit K "value") := by
  refine F.ok sciNoLane (fun vs H Q E h => ?_) (fun cdv A outer s H vs Q E hr h => ?_)
  · obtain ⟨a, C, y, rfl, _⟩ := h
    rfl
  obtain ⟨a, C, y, rfl, T, hno, ha, k⟩ := h
  refine ⟨_, (pss_one (ps_ost (pv 0) (pv 1))), ?_⟩
  exact ⟨_, rfl, _, rfl, a, C, rfl, T, hno, .inl ⟨ha, fun d hd nd => k d hd nd⟩⟩
theorem all_mk {l : PySem.W.OpenLaw} {w : World} {K : PySem.W.Frag} {h : Heap} {mg : Str → Option Value} {fa f1 f2 f3 f4 f5 f6 f7 f8 f9 f10 f11 f12 f13 f14 f15 f16 f17 f18 f19 f20 f21 f22 f23 f24 f25 f26 f27 : Addr} (X : K.In h) (G : h.Ns mainGlobals mg) (hfa : mg "law" = some (.ref fa))
    {od1 od2 od3 od4 od5 od6 od7 od8 od9 od10 od11 od12 od13 od14 od15 od16 od17 od18 od19 od20 od21 od22 od23 od24 od25 od26 od27 an1 an2 an3 an4 an5 an6 an7 an8 an9 an10 an11 an12 an13 an14 an15 an16 an17 an18 an19 an20 an21 an22 an23 an24 an25 an26 an27 : Option Addr}
    {sl1 sl2 sl3 sl4 sl5 sl6 sl7 sl8 sl9 sl10 sl11 sl12 sl13 sl14 sl15 sl16 sl17 sl18 sl19 sl20 sl21 sl22 sl23 sl24 sl25 sl26 sl27 : Array (Option Value)}
    {oc1 kV1 dc1 pm1 cd1 ct1 oc2 kV2 dc2 pm2 cd2 ct2 oc3 kV3 dc3 pm3 cd3 ct3 oc4 kV4 dc4 pm4 cd4 ct4 oc5 kV5 dc5 pm5 cd5 ct5 oc6 kV6 dc6 pm6 cd6 ct6 oc7 kV7 dc7 pm7 cd7 ct7 oc8 kV8 dc8 pm8 cd8 ct8 oc9 kV9 dc9 pm9 cd9 ct9 oc10 kV10 dc10 pm10 cd10 ct10 oc11 kV11 dc11 pm11 cd11 ct11 oc12 kV12 dc12 pm12 cd12 ct12 oc13 kV13 dc13 pm13 cd13 ct13 oc14 kV14 dc14 pm14 cd14 ct14 oc15 kV15 dc15 pm15 cd15 ct15 oc16 kV16 dc16 pm16 cd16 ct16 oc17 kV17 dc17 pm17 cd17 ct17 oc18 kV18 dc18 pm18 cd18 ct18 oc19 kV19 dc19 pm19 cd19 ct19 oc20 kV20 dc20 pm20 cd20 ct20 oc21 kV21 dc21 pm21 cd21 ct21 oc22 kV22 dc22 pm22 cd22 ct22 oc23 kV23 dc23 pm23 cd23 ct23 oc24 kV24 dc24 pm24 cd24 ct24 oc25 kV25 dc25 pm25 cd25 ct25 oc26 kV26 dc26 pm26 cd26 ct26 oc27 kV27 dc27 pm27 cd27 ct27 : Value}
    {c0 c1 c2 c3 c4 c5 c6 c7 g0 : Addr}
    {god0 gan0 : Option Addr}
    {gsl0 : Array (Option Value)}
    {goc0 gkV0 gdc0 gpm0 gcd0 gct0 : Value}
    (a1 : PySem.W.nsIn K mainGlobals "is_number" = some (some (.ref f1)))
    (l1 : K.lookup f1 = some ⟨oc1, od1, .func (PySem.W.fnOf "is_number" "is_number" (defArgs sDIsNumber) (defBody sDIsNumber) (defScope sDIsNumber) .none kV1 dc1 pm1 an1 cd1 ct1), sl1⟩)
    (d1 : PySem.W.codeIn K cd1 "is_number" = true)
    (k1 : PySem.W.keepIn K (.ref f1) = true)
    (a2 : PySem.W.nsIn K mainGlobals "is_within" = some (some (.ref f2)))
    (l2 : K.lookup f2 = some ⟨oc2, od2, .func (PySem.W.fnOf "is_within" "is_within" (defArgs sDIsWithin) (defBody sDIsWithin) (defScope sDIsWithin) .none kV2 dc2 pm2 an2 cd2 ct2), sl2⟩)
    (d2 : PySem.W.codeIn K cd2 "is_within" = true)
    (k2 : PySem.W.keepIn K (.ref f2) = true)
    (a3 : PySem.W.nsIn K mainGlobals "is_lane" = some (some (.ref f3)))
    (l3 : K.lookup f3 = some ⟨oc3, od3, .func (PySem.W.fnOf "is_lane" "is_lane" (defArgs sDIsLane) (defBody sDIsLane) (defScope sDIsLane) .none kV3 dc3 pm3 an3 cd3 ct3), sl3⟩)
    (d3 : PySem.W.codeIn K cd3 "is_lane" = true)
    (k3 : PySem.W.keepIn K (.ref f3) = true)
    (a4 : PySem.W.nsIn K mainGlobals "check_lane" = some (some (.ref f4)))
    (l4 : K.lookup f4 = some ⟨oc4, od4, .func (PySem.W.fnOf "check_lane" "check_lane" (defArgs sDCheckLane) (defBody sDCheckLane) (defScope sDCheckLane) .none kV4 dc4 pm4 an4 cd4 ct4), sl4⟩)
    (d4 : PySem.W.codeIn K cd4 "check_lane" = true)
    (k4 : PySem.W.keepIn K (.ref f4) = true)
    (a5 : PySem.W.nsIn K mainGlobals "preference_after" = some (some (.ref f5)))
    (l5 : K.lookup f5 = some ⟨oc5, od5, .func (PySem.W.fnOf "preference_after" "preference_after" (defArgs sDPreferenceAfter) (defBody sDPreferenceAfter) (defScope sDPreferenceAfter) .none kV5 dc5 pm5 an5 cd5 ct5), sl5⟩)
    (d5 : PySem.W.codeIn K cd5 "preference_after" = true)
    (k5 : PySem.W.keepIn K (.ref f5) = true)
    (a6 : PySem.W.nsIn K mainGlobals "foremost" = some (some (.ref f6)))
    (l6 : K.lookup f6 = some ⟨oc6, od6, .func (PySem.W.fnOf "foremost" "foremost" (defArgs sDForemost) (defBody sDForemost) (defScope sDForemost) .none kV6 dc6 pm6 an6 cd6 ct6), sl6⟩)
    (d6 : PySem.W.codeIn K cd6 "foremost" = true)
    (k6 : PySem.W.keepIn K (.ref f6) = true)
    (a7 : PySem.W.nsIn K mainGlobals "goes_before" = some (some (.ref f7)))
    (l7 : K.lookup f7 = some ⟨oc7, od7, .func (PySem.W.fnOf "goes_before" "goes_before" (defArgs sDGoesBefore) (defBody sDGoesBefore) (defScope sDGoesBefore) .none kV7 dc7 pm7 an7 cd7 ct7), sl7⟩)
    (d7 : PySem.W.codeIn K cd7 "goes_before" = true)
    (k7 : PySem.W.keepIn K (.ref f7) = true)
    (a8 : PySem.W.nsIn K mainGlobals "lanes_of" = some (some (.ref f8)))
    (l8 : K.lookup f8 = some ⟨oc8, od8, .func (PySem.W.fnOf "lanes_of" "lanes_of" (defArgs sDLanesOf) (defBody sDLanesOf) (defScope sDLanesOf) .none kV8 dc8 pm8 an8 cd8 ct8), sl8⟩)
    (d8 : PySem.W.codeIn K cd8 "lanes_of" = true)
    (k8 : PySem.W.keepIn K (.ref f8) = true)
    (a9 : PySem.W.nsIn K mainGlobals "lanes_before" = some (some (.ref f9)))
    (l9 : K.lookup f9 = some ⟨oc9, od9, .func (PySem.W.fnOf "lanes_before" "lanes_before" (defArgs sDLanesBefore) (defBody sDLanesBefore) (defScope sDLanesBefore) .none kV9 dc9 pm9 an9 cd9 ct9), sl9⟩)
    (d9 : PySem.W.codeIn K cd9 "lanes_before" = true)
    (k9 : PySem.W.keepIn K (.ref f9) = true)
    (a10 : PySem.W.nsIn K mainGlobals "run_lengths" = some (some (.ref f10)))
    (l10 : K.lookup f10 = some ⟨oc10, od10, .func (PySem.W.fnOf "run_lengths" "run_lengths" (defArgs sDRunLengths) (defBody sDRunLengths) (defScope sDRunLengths) .none kV10 dc10 pm10 an10 cd10 ct10), sl10⟩)
    (d10 : PySem.W.codeIn K cd10 "run_lengths" = true)
    (k10 : PySem.W.keepIn K (.ref f10) = true)
    (a11 : PySem.W.nsIn K mainGlobals "bound_of" = some (some (.ref f11)))
    (l11 : K.lookup f11 = some ⟨oc11, od11, .func (PySem.W.fnOf "bound_of" "bound_of" (defArgs sDBoundOf) (defBody sDBoundOf) (defScope sDBoundOf) .none kV11 dc11 pm11 an11 cd11 ct11), sl11⟩)
    (d11 : PySem.W.codeIn K cd11 "bound_of" = true)
    (k11 : PySem.W.keepIn K (.ref f11) = true)
    (a12 : PySem.W.nsIn K mainGlobals "favoured" = some (some (.ref f12)))
    (l12 : K.lookup f12 = some ⟨oc12, od12, .func (PySem.W.fnOf "favoured" "favoured" (defArgs sDFavoured) (defBody sDFavoured) (defScope sDFavoured) .none kV12 dc12 pm12 an12 cd12 ct12), sl12⟩)
    (d12 : PySem.W.codeIn K cd12 "favoured" = true)
    (k12 : PySem.W.keepIn K (.ref f12) = true)
    (a13 : PySem.W.nsIn K mainGlobals "mending" = some (some (.ref f13)))
    (l13 : K.lookup f13 = some ⟨oc13, od13, .func (PySem.W.fnOf "mending" "mending" (defArgs sDMending) (defBody sDMending) (defScope sDMending) .none kV13 dc13 pm13 an13 cd13 ct13), sl13⟩)
    (d13 : PySem.W.codeIn K cd13 "mending" = true)
    (k13 : PySem.W.keepIn K (.ref f13) = true)
    (a14 : PySem.W.nsIn K mainGlobals "_law_loom" = some (some (.ref f14)))
    (l14 : K.lookup f14 = some ⟨oc14, od14, .func (PySem.W.fnOf "_law_loom" "_law_loom" (defArgs sLoom) (defBody sLoom) (defScope sLoom) .none kV14 dc14 pm14 an14 cd14 ct14), sl14⟩)
    (d14 : PySem.W.codeIn K cd14 "_law_loom" = true)
    (k14 : PySem.W.keepIn K (.ref f14) = true)
    (a15 : PySem.W.nsIn K mainGlobals "_law_weave" = some (some (.ref f15)))
    (l15 : K.lookup f15 = some ⟨oc15, od15, .func (PySem.W.fnOf "_law_weave" "_law_weave" (defArgs sWeave) (defBody sWeave) (defScope sWeave) .none kV15 dc15 pm15 an15 cd15 ct15), sl15⟩)
    (d15 : PySem.W.codeIn K cd15 "_law_weave" = true)
    (k15 : PySem.W.keepIn K (.ref f15) = true)
    (a16 : PySem.W.nsIn K mainGlobals "_law_mixed" = some (some (.ref f16)))
    (l16 : K.lookup f16 = some ⟨oc16, od16, .func (PySem.W.fnOf "_law_mixed" "_law_mixed" (defArgs sDLawMixed) (defBody sDLawMixed) (defScope sDLawMixed) .none kV16 dc16 pm16 an16 cd16 ct16), sl16⟩)
    (d16 : PySem.W.codeIn K cd16 "_law_mixed" = true)
    (k16 : PySem.W.keepIn K (.ref f16) = true)
    (a17 : PySem.W.nsIn K mainGlobals "_law_rule" = some (some (.ref f17)))
    (l17 : K.lookup f17 = some ⟨oc17, od17, .func (PySem.W.fnOf "_law_rule" "_law_rule" (defArgs sDLawRule) (defBody sDLawRule) (defScope sDLawRule) .none kV17 dc17 pm17 an17 cd17 ct17), sl17⟩)
    (d17 : PySem.W.codeIn K cd17 "_law_rule" = true)
    (k17 : PySem.W.keepIn K (.ref f17) = true)
    (a18 : PySem.W.nsIn K mainGlobals "_law_arrows" = some (some (.ref f18)))
    (l18 : K.lookup f18 = some ⟨oc18, od18, .func (PySem.W.fnOf "_law_arrows" "_law_arrows" (defArgs sDLawArrows) (defBody sDLawArrows) (defScope sDLawArrows) .none kV18 dc18 pm18 an18 cd18 ct18), sl18⟩)
    (d18 : PySem.W.codeIn K cd18 "_law_arrows" = true)
    (k18 : PySem.W.keepIn K (.ref f18) = true)
    (a19 : PySem.W.nsIn K mainGlobals "_law_longest" = some (some (.ref f19)))
    (l19 : K.lookup f19 = some ⟨oc19, od19, .func (PySem.W.fnOf "_law_longest" "_law_longest" (defArgs sDLawLongest) (defBody sDLawLongest) (defScope sDLawLongest) .none kV19 dc19 pm19 an19 cd19 ct19), sl19⟩)
    (d19 : PySem.W.codeIn K cd19 "_law_longest" = true)
    (k19 : PySem.W.keepIn K (.ref f19) = true)
    (a20 : PySem.W.nsIn K mainGlobals "_law_odd" = some (some (.ref f20)))
    (l20 : K.lookup f20 = some ⟨oc20, od20, .func (PySem.W.fnOf "_law_odd" "_law_odd" (defArgs sDLawOdd) (defBody sDLawOdd) (defScope sDLawOdd) .none kV20 dc20 pm20 an20 cd20 ct20), sl20⟩)
    (d20 : PySem.W.codeIn K cd20 "_law_odd" = true)
    (k20 : PySem.W.keepIn K (.ref f20) = true)
    (a21 : PySem.W.nsIn K mainGlobals "_law_is_int" = some (some (.ref f21)))
    (l21 : K.lookup f21 = some ⟨oc21, od21, .func (PySem.W.fnOf "_law_is_int" "_law_is_int" (defArgs sDLawIsInt) (defBody sDLawIsInt) (defScope sDLawIsInt) .none kV21 dc21 pm21 an21 cd21 ct21), sl21⟩)
    (d21 : PySem.W.codeIn K cd21 "_law_is_int" = true)
    (k21 : PySem.W.keepIn K (.ref f21) = true)
    (a22 : PySem.W.nsIn K mainGlobals "_law_error" = some (some (.ref f22)))
    (l22 : K.lookup f22 = some ⟨oc22, od22, .func (PySem.W.fnOf "_law_error" "_law_error" (defArgs sDLawError) (defBody sDLawError) (defScope sDLawError) .none kV22 dc22 pm22 an22 cd22 ct22), sl22⟩)
    (d22 : PySem.W.codeIn K cd22 "_law_error" = true)
    (k22 : PySem.W.keepIn K (.ref f22) = true)
    (a23 : PySem.W.nsIn K mainGlobals "_law_favoured" = some (some (.ref f23)))
    (l23 : K.lookup f23 = some ⟨oc23, od23, .func (PySem.W.fnOf "_law_favoured" "_law_favoured" (defArgs sDLawFavoured) (defBody sDLawFavoured) (defScope sDLawFavoured) .none kV23 dc23 pm23 an23 cd23 ct23), sl23⟩)
    (d23 : PySem.W.codeIn K cd23 "_law_favoured" = true)
    (k23 : PySem.W.keepIn K (.ref f23) = true)
    (a24 : PySem.W.nsIn K mainGlobals "_law_mending" = some (some (.ref f24)))
    (l24 : K.lookup f24 = some ⟨oc24, od24, .func (PySem.W.fnOf "_law_mending" "_law_mending" (defArgs sDLawMending) (defBody sDLawMending) (defScope sDLawMending) .none kV24 dc24 pm24 an24 cd24 ct24), sl24⟩)
    (d24 : PySem.W.codeIn K cd24 "_law_mending" = true)
    (k24 : PySem.W.keepIn K (.ref f24) = true)
    (a25 : PySem.W.nsIn K mainGlobals "_law_asked" = some (some (.ref f25)))
    (l25 : K.lookup f25 = some ⟨oc25, od25, .func (PySem.W.fnOf "_law_asked" "_law_asked" (defArgs sDLawAsked) (defBody sDLawAsked) (defScope sDLawAsked) .none kV25 dc25 pm25 an25 cd25 ct25), sl25⟩)
    (d25 : PySem.W.codeIn K cd25 "_law_asked" = true)
    (k25 : PySem.W.keepIn K (.ref f25) = true)
    (a26 : PySem.W.nsIn K mainGlobals "_law_due" = some (some (.ref f26)))
    (l26 : K.lookup f26 = some ⟨oc26, od26, .func (PySem.W.fnOf "_law_due" "_law_due" (defArgs sDLawDue) (defBody sDLawDue) (defScope sDLawDue) .none kV26 dc26 pm26 an26 cd26 ct26), sl26⟩)
    (d26 : PySem.W.codeIn K cd26 "_law_due" = true)
    (k26 : PySem.W.keepIn K (.ref f26) = true)
    (a27 : PySem.W.nsIn K mainGlobals "law" = some (some (.ref f27)))
    (l27 : K.lookup f27 = some ⟨oc27, od27, .func (PySem.W.fnOf "law" "law" (defArgs sLaw) (defBody sLaw) (defScope sLaw) .none kV27 dc27 pm27 an27 cd27 ct27), sl27⟩)
    (d27 : PySem.W.codeIn K cd27 "law" = true)
    (k27 : PySem.W.keepIn K (.ref f27) = true)
    (zlen : PySem.W.nsIn K mainGlobals "len" = some none)
    (zrange : PySem.W.nsIn K mainGlobals "range" = some none)
    (ztuple : PySem.W.nsIn K mainGlobals "tuple" = some none)
    (zlist : PySem.W.nsIn K mainGlobals "list" = some none)
    (zabs : PySem.W.nsIn K mainGlobals "abs" = some none)
    (zint : PySem.W.nsIn K mainGlobals "int" = some none)
    (zstr : PySem.W.nsIn K mainGlobals "str" = some none)
    (zbool : PySem.W.nsIn K mainGlobals "bool" = some none)
    (zrepr : PySem.W.nsIn K mainGlobals "repr" = some none)
    (zisinstance : PySem.W.nsIn K mainGlobals "isinstance" = some none)
    (zenumerate : PySem.W.nsIn K mainGlobals "enumerate" = some none)
    (zsorted : PySem.W.nsIn K mainGlobals "sorted" = some none)
    (zset : PySem.W.nsIn K mainGlobals "set" = some none)
    (zall : PySem.W.nsIn K mainGlobals "all" = some none)
    (zmin : PySem.W.nsIn K mainGlobals "min" = some none)
    (zmax : PySem.W.nsIn K mainGlobals "max" = some none)
    (zany : PySem.W.nsIn K mainGlobals "any" = some none)
    (zzip : PySem.W.nsIn K mainGlobals "zip" = some none)
    (zsum : PySem.W.nsIn K mainGlobals "sum" = some none)
    (zreversed : PySem.W.nsIn K mainGlobals "reversed" = some none)
    (zValueError : PySem.W.nsIn K mainGlobals "ValueError" = some none)
    (n0 : PySem.W.nsIn K mainGlobals "NoLane" = some (some (.ref c0)))
    (n1 : PySem.W.nsIn K mainGlobals "PassError" = some (some (.ref c1)))
    (n2 : PySem.W.nsIn K mainGlobals "NoCount" = some (some (.ref c2)))
    (n3 : PySem.W.nsIn K mainGlobals "BadWord" = some (some (.ref c3)))
    (n4 : PySem.W.nsIn K mainGlobals "OtherLanes" = some (some (.ref c4)))
    (n5 : PySem.W.nsIn K mainGlobals "BadRule" = some (some (.ref c5)))
    (n6 : PySem.W.nsIn K mainGlobals "Empty" = some (some (.ref c6)))
    (n7 : PySem.W.nsIn K mainGlobals "TooLarge" = some (some (.ref c7)))
    (i0 : PySem.W.findIn K (.ref c0) "__init__" = some (some (.ref g0)))
    (t0 : PySem.W.typeIn K (.ref g0) = some (.type "function"))
    (m0 : K.lookup g0 = some ⟨goc0, god0, .func (PySem.W.fnOf "__init__" "NoLane.__init__" (defArgs siNoLane) (defBody siNoLane) (defScope siNoLane) .none gkV0 gdc0 gpm0 gan0 gcd0 gct0), gsl0⟩)
    (w0 : PySem.W.codeIn K gcd0 "NoLane.__init__" = true)
    (v0 : PySem.W.keepIn K (.ref g0) = true)
    (x0 : e1B K c0 "value" = true)
    (xk : ersB K 1 8 1 [c0, c1, c2, c3, c4, c5, c6, c7] [[6, 7]] = true) :
    ∃ fd : FuncData, (∀ (s : Shared) (v : Value), BindsTo s fd ⟨[v], []⟩ [("_law_script", v)]) ∧ ∀ base : Heap, K.In base → base.Ns mainGlobals mg → HasSys base → FnG l.prog w K mg base 12 fa fd ["_law_script"] (spQ 1 (RLaw K)) := by
  have e := hfa.symm.trans (PySem.W.mg_of X G a27)
  cases e
  have T : Blt mg := ⟨PySem.W.mg_none_of X G zlen, PySem.W.mg_none_of X G zrange, PySem.W.mg_none_of X G ztuple, PySem.W.mg_none_of X G zlist, PySem.W.mg_none_of X G zabs, PySem.W.mg_none_of X G zint, PySem.W.mg_none_of X G zstr, PySem.W.mg_none_of X G zbool, PySem.W.mg_none_of X G zrepr, PySem.W.mg_none_of X G zisinstance, PySem.W.mg_none_of X G zenumerate, PySem.W.mg_none_of X G zsorted, PySem.W.mg_none_of X G zset, PySem.W.mg_none_of X G zall, PySem.W.mg_none_of X G zmin, PySem.W.mg_none_of X G zmax, PySem.W.mg_none_of X G zany, PySem.W.mg_none_of X G zzip, PySem.W.mg_none_of X G zsum, PySem.W.mg_none_of X G zreversed⟩
  have F1 := fun_mk (st := sDIsNumber) l1 d1 k1
  have b1 := F1.binds (ps := ["value"]) fun _ _ _ _ _ _ us hl => match us, hl with | [_], _ => rfl
  have F2 := fun_mk (st := sDIsWithin) l2 d2 k2
  have b2 := F2.binds (ps := ["value", "low", "high"]) fun _ _ _ _ _ _ us hl => match us, hl with | [_, _, _], _ => rfl
  have F3 := fun_mk (st := sDIsLane) l3 d3 k3
  have b3 := F3.binds (ps := ["rule", "value"]) fun _ _ _ _ _ _ us hl => match us, hl with | [_, _], _ => rfl
  have F4 := fun_mk (st := sDCheckLane) l4 d4 k4
  have b4 := F4.binds (ps := ["rule", "value"]) fun _ _ _ _ _ _ us hl => match us, hl with | [_, _], _ => rfl
  have F5 := fun_mk (st := sDPreferenceAfter) l5 d5 k5
  have b5 := F5.binds (ps := ["rule", "last"]) fun _ _ _ _ _ _ us hl => match us, hl with | [_, _], _ => rfl
  have F6 := fun_mk (st := sDForemost) l6 d6 k6
  have b6 := F6.binds (ps := ["preference", "lanes"]) fun _ _ _ _ _ _ us hl => match us, hl with | [_, _], _ => rfl
  have F7 := fun_mk (st := sDGoesBefore) l7 d7 k7
  have b7 := F7.binds (ps := ["rule", "last", "one", "other"]) fun _ _ _ _ _ _ us hl => match us, hl with | [_, _, _, _], _ => rfl
  have F8 := fun_mk (st := sDLanesOf) l8 d8 k8
  have b8 := F8.binds (ps := ["rule"]) fun _ _ _ _ _ _ us hl => match us, hl with | [_], _ => rfl
  have F9 := fun_mk (st := sDLanesBefore) l9 d9 k9
  have b9 := F9.binds (ps := ["rule", "lane", "last"]) fun _ _ _ _ _ _ us hl => match us, hl with | [_, _, _], _ => rfl
  have F10 := fun_mk (st := sDRunLengths) l10 d10 k10
  have b10 := F10.binds (ps := ["rule", "lane"]) fun _ _ _ _ _ _ us hl => match us, hl with | [_, _], _ => rfl
  have F11 := fun_mk (st := sDBoundOf) l11 d11 k11
  have b11 := F11.binds (ps := ["rule", "lane"]) fun _ _ _ _ _ _ us hl => match us, hl with | [_, _], _ => rfl
  have F12 := fun_mk (st := sDFavoured) l12 d12 k12
  have b12 := F12.binds (ps := ["rule", "lane", "last"]) fun _ _ _ _ _ _ us hl => match us, hl with | [_, _, _], _ => rfl
  have F13 := fun_mk (st := sDMending) l13 d13 k13
  have b13 := F13.binds (ps := ["rule", "lane"]) fun _ _ _ _ _ _ us hl => match us, hl with | [_, _], _ => rfl
  have F14 := fun_mk (st := sLoom) l14 d14 k14
  have b14 := F14.binds (ps := ["_law_script"]) fun _ _ _ _ _ _ us hl => match us, hl with | [_], _ => rfl
  have F15 := fun_mk (st := sWeave) l15 d15 k15
  have b15 := F15.binds (ps := ["_law_loom_here", "_law_many"]) fun _ _ _ _ _ _ us hl => match us, hl with | [_, _], _ => rfl
  have F16 := fun_mk (st := sDLawMixed) l16 d16 k16
  have b16 := F16.binds (ps := ["_law_loom_here", "_law_many"]) fun _ _ _ _ _ _ us hl => match us, hl with | [_, _], _ => rfl
  have F17 := fun_mk (st := sDLawRule) l17 d17 k17
  have b17 := F17.binds (ps := ["_law_loom_here", "_law_top"]) fun _ _ _ _ _ _ us hl => match us, hl with | [_, _], _ => rfl
  have F18 := fun_mk (st := sDLawArrows) l18 d18 k18
  have b18 := F18.binds (ps := ["_law_rule_here", "_law_lane"]) fun _ _ _ _ _ _ us hl => match us, hl with | [_, _], _ => rfl
  have F19 := fun_mk (st := sDLawLongest) l19 d19 k19
  have b19 := F19.binds (ps := ["_law_rows", "_law_many"]) fun _ _ _ _ _ _ us hl => match us, hl with | [_, _], _ => rfl
  have F20 := fun_mk (st := sDLawOdd) l20 d20 k20
  have b20 := F20.binds (ps := ["_law_loom_here"]) fun _ _ _ _ _ _ us hl => match us, hl with | [_], _ => rfl
  have F21 := fun_mk (st := sDLawIsInt) l21 d21 k21
  have b21 := F21.binds (ps := ["_law_value", "_law_low", "_law_high"]) fun _ _ _ _ _ _ us hl => match us, hl with | [_, _, _], _ => rfl
  have F22 := fun_mk (st := sDLawError) l22 d22 k22
  have b22 := F22.binds (ps := ["_law_error_here"]) fun _ _ _ _ _ _ us hl => match us, hl with | [_], _ => rfl
  have F23 := fun_mk (st := sDLawFavoured) l23 d23 k23
  have b23 := F23.binds (ps := ["_law_rule_here", "_law_lane", "_law_spot"]) fun _ _ _ _ _ _ us hl => match us, hl with | [_, _, _], _ => rfl
  have F24 := fun_mk (st := sDLawMending) l24 d24 k24
  have b24 := F24.binds (ps := ["_law_rule_here", "_law_lane"]) fun _ _ _ _ _ _ us hl => match us, hl with | [_, _], _ => rfl
  have F25 := fun_mk (st := sDLawAsked) l25 d25 k25
  have b25 := F25.binds (ps := ["_law_rule_here", "_law_lane", "_law_item"]) fun _ _ _ _ _ _ us hl => match us, hl with | [_, _, _], _ => rfl
  have F26 := fun_mk (st := sDLawDue) l26 d26 k26
  have b26 := F26.binds (ps := ["_law_rule_here", "_law_lane", "_law_item"]) fun _ _ _ _ _ _ us hl => match us, hl with | [_, _, _], _ => rfl
  have F27 := fun_mk (st := sLaw) l27 d27 k27
  have J0 := fun_mk (st := siNoLane) m0 w0 v0
  have B0 := J0.binds (ps := ["self", "value"]) fun _ _ _ _ _ _ us hl => match us, hl with | [_, _], _ => rfl
  refine ⟨PySem.W.fnOf "law" "law" (defArgs sLaw) (defBody sLaw) (defScope sLaw) .none kV27 dc27 pm27 an27 cd27 ct27, fun s v => .of_eq rfl, fun base _ _ hs => ?_⟩
  have S : Ers l.prog w K mg base (fun n => [c0, c1, c2, c3, c4, c5, c6, c7].getD n 0) := {
    xNoLane := er1_of (PySem.W.mg_of X G n0) x0 i0 t0 (ok_iNoLane J0) B0
    gNoLane := PySem.W.mg_of X G n0
    gPassError := PySem.W.mg_of X G n1
    gNoCount := PySem.W.mg_of X G n2
    gBadWord := PySem.W.mg_of X G n3
    gOtherLanes := PySem.W.mg_of X G n4
    gBadRule := PySem.W.mg_of X G n5
    gEmpty := PySem.W.mg_of X G n6
    gTooLarge := PySem.W.mg_of X G n7
    gValueError := PySem.W.mg_none_of X G zValueError
    exm := fun i hi => (ersB_ok xk i hi).1
    kit := fun i hi j hj => (ersB_ok xk i hi).2.2.1 j hj
    kv := fun i hi => (ersB_ok xk i hi).2.1
    ka0 := fun i hi => (ersB_ok xk i hi).2.2.2 [6, 7] (by decide)
    is := fun n hn => match n, hn with
      | 0, _ => e1B_is x0
      | n + 1, h => absurd h (by omega) }
  have h__law_weave : Cal l.prog w K mg base 1 "_law_weave" ["_law_loom_here", "_law_many"] (spC (FLoom l.prog w) 2 RWeave) := ⟨f15, _, q_weave F15, PySem.W.mg_of X G a15, k15, b15⟩
  have h__law_loom : Cal l.prog w K mg base 1 "_law_loom" ["_law_script"] (spLm (FLoom l.prog w) K) := ⟨f14, _, q_loom F14 T, PySem.W.mg_of X G a14, k14, b14⟩
  have h__law_mixed : Cal l.prog w K mg base 2 "_law_mixed" ["_law_loom_here", "_law_many"] (spC (FLoom l.prog w) 2 RMixed) := ⟨f16, _, q_mixed F16 T h__law_weave, PySem.W.mg_of X G a16, k16, b16⟩
  have h__law_rule : Cal l.prog w K mg base 3 "_law_rule" ["_law_loom_here", "_law_top"] (spC (FLoom l.prog w) 2 RRule) := ⟨f17, _, q_rule F17 T h__law_weave h__law_mixed, PySem.W.mg_of X G a17, k17, b17⟩
  have h__law_odd : Cal l.prog w K mg base 2 "_law_odd" ["_law_loom_here"] (spC (FLoom l.prog w) 1 ROdd) := ⟨f20, _, q_odd F20 T h__law_weave, PySem.W.mg_of X G a20, k20, b20⟩
  have h_is_number : Cal l.prog w K mg base 1 "is_number" ["value"] (spQ 1 RNum) := ⟨f1, _, q_number F1 T, PySem.W.mg_of X G a1, k1, b1⟩
  have h_is_within : Cal l.prog w K mg base 2 "is_within" ["value", "low", "high"] (spQ 3 RWithin) := ⟨f2, _, q_within F2 T h_is_number, PySem.W.mg_of X G a2, k2, b2⟩
  have h_is_lane : Cal l.prog w K mg base 3 "is_lane" ["rule", "value"] (spQ 2 RIsLane) := ⟨f3, _, q_lane F3 T h_is_within, PySem.W.mg_of X G a3, k3, b3⟩
  have h_check_lane : CalX l.prog w K mg base 4 "check_lane" ["rule", "value"] (spX 2 (XCheck (fun n => [c0, c1, c2, c3, c4, c5, c6, c7].getD n 0))) := ⟨f4, _, q_check F4 T S h_is_lane, PySem.W.mg_of X G a4, k4, b4⟩
  have h_preference_after : CalX l.prog w K mg base 5 "preference_after" ["rule", "last"] (spX 2 (XPref (fun n => [c0, c1, c2, c3, c4, c5, c6, c7].getD n 0))) := ⟨f5, _, q_pref F5 T S h_check_lane, PySem.W.mg_of X G a5, k5, b5⟩
  have h_foremost : Cal l.prog w K mg base 1 "foremost" ["preference", "lanes"] (spQ 2 RFore) := ⟨f6, _, q_fore F6 T, PySem.W.mg_of X G a6, k6, b6⟩
  have h_goes_before : Cal l.prog w K mg base 6 "goes_before" ["rule", "last", "one", "other"] (spQ 4 RGoes) := ⟨f7, _, q_goes F7 T S h_preference_after h_foremost, PySem.W.mg_of X G a7, k7, b7⟩
  have h_lanes_of : Cal l.prog w K mg base 1 "lanes_of" ["rule"] (spQ 1 RLanesOf) := ⟨f8, _, q_lanesof F8 T, PySem.W.mg_of X G a8, k8, b8⟩
  have h_lanes_before : Cal l.prog w K mg base 7 "lanes_before" ["rule", "lane", "last"] (spQ 3 RBefore) := ⟨f9, _, q_before F9 T h_lanes_of h_goes_before, PySem.W.mg_of X G a9, k9, b9⟩
  have h_run_lengths : Cal l.prog w K mg base 8 "run_lengths" ["rule", "lane"] (spQ 2 RRun) := ⟨f10, _, q_run F10 T h_lanes_of h_lanes_before, PySem.W.mg_of X G a10, k10, b10⟩
  have h_bound_of : CalX l.prog w K mg base 9 "bound_of" ["rule", "lane"] (spX 2 (XBound (fun n => [c0, c1, c2, c3, c4, c5, c6, c7].getD n 0))) := ⟨f11, _, q_bound F11 T S h_check_lane h_run_lengths, PySem.W.mg_of X G a11, k11, b11⟩
  have h_favoured : CalX l.prog w K mg base 5 "favoured" ["rule", "lane", "last"] (spX 3 (XFav (fun n => [c0, c1, c2, c3, c4, c5, c6, c7].getD n 0))) := ⟨f12, _, q_fav F12 T S h_check_lane, PySem.W.mg_of X G a12, k12, b12⟩
  have h_mending : CalX l.prog w K mg base 10 "mending" ["rule", "lane"] (spX 2 (XMend (fun n => [c0, c1, c2, c3, c4, c5, c6, c7].getD n 0))) := ⟨f13, _, q_mend F13 T S h_check_lane h_lanes_of h_bound_of h_favoured, PySem.W.mg_of X G a13, k13, b13⟩
  have h__law_arrows : Cal l.prog w K mg base 1 "_law_arrows" ["_law_rule_here", "_law_lane"] (spQ 2 RArrows) := ⟨f18, _, q_arrows F18 T, PySem.W.mg_of X G a18, k18, b18⟩
  have h__law_longest : Cal l.prog w K mg base 1 "_law_longest" ["_law_rows", "_law_many"] (spQ 2 RLong) := ⟨f19, _, q_longest F19 T, PySem.W.mg_of X G a19, k19, b19⟩
  have h__law_is_int : Cal l.prog w K mg base 1 "_law_is_int" ["_law_value", "_law_low", "_law_high"] (spQ 3 RWithin) := ⟨f21, _, q_isint F21 T, PySem.W.mg_of X G a21, k21, b21⟩
  have h__law_error : CalE l.prog w K mg base 1 "_law_error" ["_law_error_here"] (fun er cls d => spQ 1 (RErr (fun n => [c0, c1, c2, c3, c4, c5, c6, c7].getD n 0) er cls d)) := ⟨f22, _, q_err F22 T S, PySem.W.mg_of X G a22, k22, b22⟩
  have h__law_favoured : Cal l.prog w K mg base 1 "_law_favoured" ["_law_rule_here", "_law_lane", "_law_spot"] (spQ 3 RFav) := ⟨f23, _, q_lfav F23 T, PySem.W.mg_of X G a23, k23, b23⟩
  have h__law_mending : Cal l.prog w K mg base 2 "_law_mending" ["_law_rule_here", "_law_lane"] (spQ 2 RMnd) := ⟨f24, _, q_lmend F24 T h__law_arrows h__law_longest h__law_favoured, PySem.W.mg_of X G a24, k24, b24⟩
  have h__law_asked : Cal l.prog w K mg base 11 "_law_asked" ["_law_rule_here", "_law_lane", "_law_item"] (spQ 3 (RDue (fun n => [c0, c1, c2, c3, c4, c5, c6, c7].getD n 0))) := ⟨f25, _, q_asked F25 T S h_mending h_favoured h__law_error, PySem.W.mg_of X G a25, k25, b25⟩
  have h__law_due : Cal l.prog w K mg base 3 "_law_due" ["_law_rule_here", "_law_lane", "_law_item"] (spQ 3 (RDue (fun n => [c0, c1, c2, c3, c4, c5, c6, c7].getD n 0))) := ⟨f26, _, q_due F26 T h__law_is_int h__law_mending h__law_favoured, PySem.W.mg_of X G a26, k26, b26⟩
  exact q_law F27 T hs h__law_loom h__law_rule h__law_odd h__law_asked h__law_due
end Lr
open PySem PySem.W PyProof.Rows
set_option maxRecDepth 100000 in
set_option maxHeartbeats 0 in
theorem PySem.Challenge.cw_lanerules_k52_favoured_lanes_holds : PySem.Challenge.rw_lanerules_k52_favoured_lanes.Holds := by
  w_on; o_law; k_head; (case hw => w_witness2)
  k_fill
  refine Lr.walkS (l := PySem.Challenge.rw_lanerules_k52_favoured_lanes) (n := 63) (k := 12) (x := "_law_script") (sp := fun w => Lr.spQ 1 (Lr.RLaw _)) rfl (by decide) rfl ⟨rfl, by decide, by decide⟩ (by decide +kernel) (fun w h Y => PySem.W.kIn_of Y) ?F (fun w H a ns hl hS => Lr.law_want hl hS)
  case F =>
    intro w mg fa h KX G hmg
    refine' Lr.all_mk KX G hmg ?a1 ?l1 ?d1 ?k1 ?a2 ?l2 ?d2 ?k2 ?a3 ?l3 ?d3 ?k3 ?a4 ?l4 ?d4 ?k4 ?a5 ?l5 ?d5 ?k5 ?a6 ?l6 ?d6 ?k6 ?a7 ?l7 ?d7 ?k7 ?a8 ?l8 ?d8 ?k8 ?a9 ?l9 ?d9 ?k9 ?a10 ?l10 ?d10 ?k10 ?a11 ?l11 ?d11 ?k11 ?a12 ?l12 ?d12 ?k12 ?a13 ?l13 ?d13 ?k13 ?a14 ?l14 ?d14 ?k14 ?a15 ?l15 ?d15 ?k15 ?a16 ?l16 ?d16 ?k16 ?a17 ?l17 ?d17 ?k17 ?a18 ?l18 ?d18 ?k18 ?a19 ?l19 ?d19 ?k19 ?a20 ?l20 ?d20 ?k20 ?a21 ?l21 ?d21 ?k21 ?a22 ?l22 ?d22 ?k22 ?a23 ?l23 ?d23 ?k23 ?a24 ?l24 ?d24 ?k24 ?a25 ?l25 ?d25 ?k25 ?a26 ?l26 ?d26 ?k26 ?a27 ?l27 ?d27 ?k27 ?zlen ?zrange ?ztuple ?zlist ?zabs ?zint ?zstr ?zbool ?zrepr ?zisinstance ?zenumerate ?zsorted ?zset ?zall ?zmin ?zmax ?zany ?zzip ?zsum ?zreversed ?zValueError ?n0 ?n1 ?n2 ?n3 ?n4 ?n5 ?n6 ?n7 ?i0 ?t0 ?m0 ?w0 ?v0 ?x0 ?xk
    (case a1 => k_is)
    (case l1 => k_is)
    (case d1 => k_is)
    (case k1 => k_is)
    (case a2 => k_is)
    (case l2 => k_is)
    (case d2 => k_is)
    (case k2 => k_is)
    (case a3 => k_is)
    (case l3 => k_is)
    (case d3 => k_is)
    (case k3 => k_is)
    (case a4 => k_is)
    (case l4 => k_is)
    (case d4 => k_is)
    (case k4 => k_is)
    (case a5 => k_is)
    (case l5 => k_is)
    (case d5 => k_is)
    (case k5 => k_is)
    (case a6 => k_is)
    (case l6 => k_is)
    (case d6 => k_is)
    (case k6 => k_is)
    (case a7 => k_is)
    (case l7 => k_is)
    (case d7 => k_is)
    (case k7 => k_is)
    (case a8 => k_is)
    (case l8 => k_is)
    (case d8 => k_is)
    (case k8 => k_is)
    (case a9 => k_is)
    (case l9 => k_is)
    (case d9 => k_is)
    (case k9 => k_is)
    (case a10 => k_is)
    (case l10 => k_is)
    (case d10 => k_is)
    (case k10 => k_is)
    (case a11 => k_is)
    (case l11 => k_is)
    (case d11 => k_is)
    (case k11 => k_is)
    (case a12 => k_is)
    (case l12 => k_is)
    (case d12 => k_is)
    (case k12 => k_is)
    (case a13 => k_is)
    (case l13 => k_is)
    (case d13 => k_is)
    (case k13 => k_is)
    (case a14 => k_is)
    (case l14 => k_is)
    (case d14 => k_is)
    (case k14 => k_is)
    (case a15 => k_is)
    (case l15 => k_is)
    (case d15 => k_is)
    (case k15 => k_is)
    (case a16 => k_is)
    (case l16 => k_is)
    (case d16 => k_is)
    (case k16 => k_is)
    (case a17 => k_is)
    (case l17 => k_is)
    (case d17 => k_is)
    (case k17 => k_is)
    (case a18 => k_is)
    (case l18 => k_is)
    (case d18 => k_is)
    (case k18 => k_is)
    (case a19 => k_is)
    (case l19 => k_is)
    (case d19 => k_is)
    (case k19 => k_is)
    (case a20 => k_is)
    (case l20 => k_is)
    (case d20 => k_is)
    (case k20 => k_is)
    (case a21 => k_is)
    (case l21 => k_is)
    (case d21 => k_is)
    (case k21 => k_is)
    (case a22 => k_is)
    (case l22 => k_is)
    (case d22 => k_is)
    (case k22 => k_is)
    (case a23 => k_is)
    (case l23 => k_is)
    (case d23 => k_is)
    (case k23 => k_is)
    (case a24 => k_is)
    (case l24 => k_is)
    (case d24 => k_is)
    (case k24 => k_is)
    (case a25 => k_is)
    (case l25 => k_is)
    (case d25 => k_is)
    (case k25 => k_is)
    (case a26 => k_is)
    (case l26 => k_is)
    (case d26 => k_is)
    (case k26 => k_is)
    (case a27 => k_is)
    (case l27 => k_is)
    (case d27 => k_is)
    (case k27 => k_is)
    (case zlen => k_is)
    (case zrange => k_is)
    (case ztuple => k_is)
    (case zlist => k_is)
    (case zabs => k_is)
    (case zint => k_is)
    (case zstr => k_is)
    (case zbool => k_is)
    (case zrepr => k_is)
    (case zisinstance => k_is)
    (case zenumerate => k_is)
    (case zsorted => k_is)
    (case zset => k_is)
    (case zall => k_is)
    (case zmin => k_is)
    (case zmax => k_is)
    (case zany => k_is)
    (case zzip => k_is)
    (case zsum => k_is)
    (case zreversed => k_is)
    (case zValueError => k_is)
    (case n0 => k_is)
    (case n1 => k_is)
    (case n2 => k_is)
    (case n3 => k_is)
    (case n4 => k_is)
    (case n5 => k_is)
    (case n6 => k_is)
    (case n7 => k_is)
    (case i0 => k_is)
    (case t0 => k_is)
    (case m0 => k_is)
    (case w0 => k_is)
    (case v0 => k_is)
    (case x0 => kernel_rfl)
    (case xk => kernel_rfl)
