import PyProof.Rows.All
import Wide.All
import OpenK.AllK
import Wide.FinOn
import PySem.Challenge.RW_lanerules_k01_limits_and_errors
import HandS.ForMost
import HandS.Wide
import HandS.Conv
import HandS.More
import HandS.Style
import HandS.TupMul
import HandS.TupAny
import HandS.IsInst
import HandS.EndBits
import HandS.Evl
import KE.GoesMore
import KE.GoesEnum
import HandS.SetFor
import HandS.Strs
import HandS.DictComp
import HandS.Walk
import HandS.ExcInit
import HandS.ExcField
import HandS.ExcIs
import HandS.ExcOwn
import KE.KExcIs
import HandS.ExcValue
import HandS.TryOnly
set_option Elab.async false
set_option linter.all false
set_option maxRecDepth 100000
set_option maxHeartbeats 4000000
namespace Lr
open PySem L2
abbrev Ex := Evl.Ex
/-! ### the drawer of numbers: its dict and its list of great numbers are known only by what always holds of them -/
def canKvs (d a : Addr) (t : Int) : List (Key × V) := [(Sum.inr "deep", .ref d), (Sum.inr "all", .ref a), (Sum.inr "times", .int t)]
def DeepOk (ds : List Int) : Prop := (∀ x ∈ ds, 0 ≤ x) ∧ ds.length ≤ 63
section
variable (P : Program) (w : World)
abbrev H0 : Hp := fun _ => none
def phiC (c d a : Addr) : Heap → Prop := fun h => ∃ t : Int, ObjOk P w H0 h c (.dK (canKvs d a t))
def phiD (d : Addr) : Heap → Prop := fun h => ∃ ds : List Int, DeepOk ds ∧ ObjOk P w H0 h d (.lst (ds.map V.int))
/-- the drawer stands at c -/
def Can (H : Hp) (c : Addr) : Prop := ∃ d a cs, H c = some (.ext (phiC P w c d a)) ∧ H d = some (.ext (phiD P w d)) ∧ H a = some (.lst (cs.map V.int)) ∧ cs ≠ [] ∧ cs.length ≤ 64 ∧ d ≠ c
end
section
variable {P : Program} {w : World} {H H' : Hp} {c d a : Addr}
theorem Can.mono (h : Can P w H c) (e : Ex H H') : Can P w H' c := by
  obtain ⟨d, a, cs, h1, h2, h3, h4⟩ := h
  exact ⟨d, a, cs, e _ _ h1, e _ _ h2, e _ _ h3, h4⟩
theorem stayC {h1 h2 : Heap} (x : phiC P w c d a h1) (k : ∀ o, h1.get? c = some o → h2.get? c = some o) : phiC P w c d a h2 := by
  obtain ⟨t, x⟩ := x
  refine ⟨t, ObjOk.stay x (fun b u hb e => ?_) (fun _ q => nomatch q) fun _ _ q => nomatch q⟩
  rcases hb with rfl | q
  · exact k u e
  · cases q
theorem stayD {h1 h2 : Heap} (x : phiD P w d h1) (k : ∀ o, h1.get? d = some o → h2.get? d = some o) : phiD P w d h2 := by
  obtain ⟨t, g, x⟩ := x
  refine ⟨t, g, ObjOk.stay x (fun b u hb e => ?_) (fun _ q => nomatch q) fun _ _ q => nomatch q⟩
  rcases hb with rfl | q
  · exact k u e
  · cases q
theorem there_dK {h : Heap} {kvs : List (Key × V)} (x : ObjOk P w H h c (.dK kvs)) : ∃ o, h.get? c = some o := by
  obtain ⟨_, _, _, _, o, _, _, e, _⟩ := x
  exact ⟨o, e⟩
theorem there_lst {h : Heap} {xs : List V} (x : ObjOk P w H h c (.lst xs)) : ∃ o, h.get? c = some o := by
  obtain ⟨_, _, _, _, e⟩ := x
  exact ⟨_, e⟩
end
section
variable {X : Cx} {pins : List (Addr × Obj)} {σ : St} {H : Hp} {s : Shared} {c d a : Addr}
/-- another description of the same object -/
theorem reword {o o' : HO} (I : Inv X pins σ H s) (h : H c = some o) (mu : Mut (some o)) (new : ObjOk X.prog X.w (upd H c o') s.heap c o') (there : ∃ u, s.heap.get? c = some u) : Inv X pins σ (upd H c o') s :=
  I.write (x := c) (e := c) (t' := s.toks) (h' := s.heap) (by rw [h]; exact mu) (.inl rfl) (fun _ _ _ q => q) there new
theorem opened (I : Inv X pins σ H s) (h1 : H c = some (.ext (phiC X.prog X.w c d a))) (h2 : H d = some (.ext (phiD X.prog X.w d))) (hcd : d ≠ c) :
    ∃ t ds, DeepOk ds ∧ Inv X pins σ (upd (upd H c (.dK (canKvs d a t))) d (.lst (ds.map V.int))) s := by
  obtain ⟨⟨t, x1⟩, th1, _⟩ := I.hok c _ h1
  obtain ⟨⟨ds, g, x2⟩, th2, _⟩ := I.hok d _ h2
  have I1 := reword (o' := .dK (canKvs d a t)) I h1 trivial x1 th1
  have h3 : upd H c (.dK (canKvs d a t)) d = some (.ext (phiD X.prog X.w d)) := by rw [upd_ne hcd]; exact h2
  exact ⟨t, ds, g, reword (o' := .lst (ds.map V.int)) I1 h3 trivial x2 th2⟩
theorem closed {t : Int} {ds : List Int} (I : Inv X pins σ H s) (h1 : H c = some (.dK (canKvs d a t))) (h2 : H d = some (.lst (ds.map V.int))) (g : DeepOk ds) (hcd : d ≠ c) :
    Inv X pins σ (upd (upd H c (.ext (phiC X.prog X.w c d a))) d (.ext (phiD X.prog X.w d))) s := by
  have x1 : ObjOk X.prog X.w H0 s.heap c (.dK (canKvs d a t)) := I.hok c _ h1
  have x2 : ObjOk X.prog X.w H0 s.heap d (.lst (ds.map V.int)) := I.hok d _ h2
  have I1 := reword (o' := .ext (phiC X.prog X.w c d a)) I h1 trivial ⟨⟨t, x1⟩, there_dK x1, fun _ _ p k => stayC p k⟩ (there_dK x1)
  have h3 : upd H c (.ext (phiC X.prog X.w c d a)) d = some (.lst (ds.map V.int)) := by rw [upd_ne hcd]; exact h2
  exact reword (o' := .ext (phiD X.prog X.w d)) I1 h3 trivial ⟨⟨ds, g, x2⟩, there_lst x2, fun _ _ p k => stayD p k⟩ (there_lst x2)
end
/-- a body that opens the drawer, and closes it ahead of each return -/
def tDrawer (P : Program) (w : World) (t : TS) : TS := fun D σ H => ∃ c d a, H c = some (.ext (phiC P w c d a)) ∧ H d = some (.ext (phiD P w d)) ∧ d ≠ c ∧
  ∀ tm ds, DeepOk ds → t ⟨fun _ _ => False, fun v H' => (∃ tm' ds', H' c = some (.dK (canKvs d a tm')) ∧ H' d = some (.lst (ds'.map V.int)) ∧ DeepOk ds' ∧
    D.rt v (upd (upd H' c (.ext (phiC P w c d a))) d (.ext (phiD P w d)))), fun _ _ => False, fun _ _ => False⟩ σ (upd (upd H c (.dK (canKvs d a tm))) d (.lst (ds.map V.int)))
theorem pss_drawer {X : Cx} {st : List Stmt} {t : TS} (h : PSs X st t) : PSs X st (tDrawer X.prog X.w t) := by
  refine ⟨fun pins s σ H D I hw => ?_⟩
  obtain ⟨c, d, a, h1, h2, hcd, hw⟩ := hw
  obtain ⟨tm, ds, g, I1⟩ := opened I h1 h2 hcd
  refine thn (h.run pins s σ _ _ I1 (hw tm ds g)) fun f s1 q => ?_
  cases f with
  | next => obtain ⟨_, _, _, z⟩ := q; exact z.elim
  | brk => obtain ⟨_, _, _, z⟩ := q; exact z.elim
  | cont => obtain ⟨_, _, _, z⟩ := q; exact z.elim
  | ret v =>
    obtain ⟨x, σ', H', I2, r, tm', ds', e1, e2, g', z⟩ := q
    exact ⟨x, σ', _, closed I2 e1 e2 g' hcd, r, z⟩
end Lr

namespace Lr
open PySem L2 PySem.Spec PyProof.Rows
/-! ### a promise that is asked for only where no repr is under way -/
structure FnG (P : Program) (w : World) (K : PySem.W.Frag) (mg : Str → Option Value) (base : Heap)
    (k : Nat) (f : Addr) (fd : FuncData) (ps : List Str) (sp : Sp) : Prop where
  len : ∀ vs H Q E, sp vs H Q E → vs.length = ps.length
  go : ∀ (A : Around) (outer : List Env) (s : Shared) (H : Hp) (args : Args) (us : List Value)
      (vs : List V) (Q : VK) (E : XK), Room k A → A.guards = some [] →
      Env0 P w K mg base A outer s H → BindsTo s fd args (ps.zip us) → Vals vs us → sp vs H Q E →
      codeAny (model P w) A (.call (.ref f) args) (CR CX0 outer P w H s Q E) s
section
variable {P : Program} {w : World} {K : PySem.W.Frag} {mg : Str → Option Value} {base : Heap}
/-- by its body -/
theorem fnG {x qual : Str} {st : Stmt} {f : Addr} {fd : FuncData} {N ps : List Str} {k : Nat} {sp : Sp}
    (F : Fun K x qual st f fd) (S : FnScope N ps (defScope st))
    (len : ∀ vs H Q E, sp vs H Q E → vs.length = ps.length)
    (hbody : ∀ (cdv : Value) (A : Around) (outer : List Env) (s : Shared) (H : Hp) (vs : List V) (Q : VK) (E : XK),
      Room k (A.deeper (envOfC qual (defScope st) s.heap.objs.size f cdv)) →
      (A.deeper (envOfC qual (defScope st) s.heap.objs.size f cdv)).guards = some [] → sp vs H Q E →
      ∃ t, PSs (cxOf CX0 P w K mg base N qual (defScope st) f cdv A outer s H E).nox (defBody st) t ∧
        t { nx := fun _ G => Q .non G, rt := Q } (start N vs) H) :
    FnG P w K mg base (k + 1) f fd ps sp := by
  obtain ⟨oc, od, kV, doc, pm, an, cdv, ct, osl, rfl, lk, hcd⟩ := F.ex
  refine ⟨len, ?_⟩
  intro A outer s H args us vs Q E room hg env hb rel want
  have many := len _ _ _ _ want
  have inK : K.In s.heap := env.mod.kin.keeps fun b o e => (env.bs b o e).1
  have lim := env.mod.nolimit.keeps (h' := s.heap) fun b o e => (env.bs b o e).1
  refine codeAny_call_function room.depth (inK _ _ lk) rfl S.co S.gen rfl (PySem.W.codeRec_of inK hcd)
    (hb _ _ _ _ (wpAny_newFunctionEnv_cells S.kind (fun y hy => ?_) fun env' he s1 x1 => ?_))
  · obtain ⟨nm, val⟩ := y
    rcases S.par nm (List.of_mem_zip hy).1 with q | q
    · exact Or.inl q
    · exact Or.inr ⟨q, PySem.W.cellsFrom_some _ _ _ (Or.inl q)⟩
  · subst he
    refine ⟨lim.keeps x1.toInCall.keep, codeAny_func ?_⟩
    obtain ⟨t, ht, hq⟩ := hbody cdv A outer s H vs Q E (room.deeper _) hg want
    have J := inv_start (CX := CX0) (E := E) S room.hd env many rel x1
    refine wpAny_mono (ht.nox.run [] s1 (start N vs) H _ J hq) ?_ fun _ _ z => z
    intro fl s2 out
    cases fl with
    | ret u =>
      obtain ⟨v, σ2, H2, J2, rv, q⟩ := out
      exact ⟨v, H2, J2.os, J2.bare, J2.base, J2.hok, rv, q⟩
    | next =>
      obtain ⟨σ2, H2, J2, q⟩ := out
      exact ⟨.non, H2, J2.os, J2.bare, J2.base, J2.hok, rfl, q⟩
    | brk => obtain ⟨_, _, _, z⟩ := out; exact z.elim
    | cont => obtain ⟨_, _, _, z⟩ := out; exact z.elim
end
section
variable {X : Cx} {k : Nat} {f : Addr} {fd : FuncData} {ps : List Str} {sp : Sp} {x : Str} {p pos : Pos} {e : Expr} {es : List Expr} {t : TA}
/-- a call of such a def, where no repr is under way -/
theorem pe_callG (F : FnG X.prog X.w X.K X.mg X.base k f fd ps sp) (hr : Room k X.A) (hgd : X.A.guards = some []) (hg : Gl X x)
    (hm : X.mg x = some (.ref f)) (hk : PySem.W.keepIn X.K (.ref f) = true) (hb : Binds X.K fd ps [])
    (ha : PA X (e :: es) t) (hdb : (x == ("__debug__" : Str)) = false := by decide)
    (he : starEach (e :: es) X.env = (false, eval e X.env) :: starEach es X.env := by rfl)
    (hpl : (backTo pos (starEach es X.env)).any (·.1) = false := by rfl) :
    PE X (.Call (.Name x p) (e :: es) [] pos) (tCall sp [] E0 t) := by
  refine ⟨fun pins s σ H Q I h => wpAny_Call_Name_kw (ld_glob I hg hm ?_ hdb)⟩
  refine PySem.W.callWith_K (h₀ := X.base) I.ok.mod.kin hk ?_ he hpl
  refine thn (ha.run pos pins s σ H _ I h) ?_
  rintro us s1 ⟨vs, H1, I1, r, q⟩
  refine ⟨I1.kIn, ?_⟩
  rw [List.append_nil] at q
  have len := F.len _ _ _ _ q
  have bind := hb s1 us I1.kIn (by rw [List.append_nil, ← r.length]; exact len)
  rw [List.append_nil] at bind
  refine wpAny_call (codeAny_mono (F.go X.A X.stack s1 H1 ⟨us, []⟩ us vs Q E0 hr hgd I1.env0 bind r q) ?_)
  intro res s2 out
  cases res with
  | error u => exact False.elim out
  | ok fl =>
    cases fl with
    | ret u => exact I1.after out
    | next => exact False.elim out
    | brk => exact False.elim out
    | cont => exact False.elim out
end
/-! ### the law's end -/
theorem lawG {P : Program} {w : World} {K : PySem.W.Frag} {mg mb : Str → Option Value} {k : Nat} {fa a : Addr} {fd : FuncData} {x : Str} {sp : Sp}
    {t0 : Shared} {us : List Value} {ns : List Int} (inK : K.In t0.heap) (gl : t0.heap.Ns mainGlobals mg) (bl : t0.heap.Ns builtinsNs mb)
    (blt : ∀ y : Str, y ≠ "__name__" → mb y = bootBuiltins y) (lim : t0.heap.NoLimit) (nog : t0.gens = #[])
    (at' : t0.heap.get? a = some { cls := .type "list", data := .seq us.toArray }) (hints : IntsAre us ns) (short : ns.length ≤ sizeLine)
    (room : Room k callerA) (F : ∀ base : Heap, K.In base → base.Ns mainGlobals mg → FnG P w K mg base k fa fd [x] sp)
    (bind : ∀ (s : Shared) (u : Value), BindsTo s fd ⟨[u], []⟩ [(x, u)])
    (want : ∀ H : Hp, SqL K H a (ns.map V.int) → sp [.ref a] H (fun v _ => v = .bl true) fun _ _ _ => False) :
    codeAny (model P w) callerA (.call (.ref fa) ⟨[.ref a], []⟩)
      (fun r s2 => r = .ok (.ret (.bool true)) ∧ OldK t0.heap s2.heap ∧ s2.os = t0.os ∧ AllBare s2.gens) t0 := by
  have vals : Vals (ns.map V.int) us := vals_ints hints
  have same := hints.length
  -- over any abstract heap that tracks nothing but the script
  have main : ∀ H : Hp, (∀ b u, H b = some u → b = a ∧ K.lookup a = none ∧ ∃ o ys, u = .frz o (.lst ys)) → SqL K H a (ns.map V.int) → HOk P w H t0.heap →
      codeAny (model P w) callerA (.call (.ref fa) ⟨[.ref a], []⟩)
        (fun r s2 => r = .ok (.ret (.bool true)) ∧ OldK t0.heap s2.heap ∧ s2.os = t0.os ∧ AllBare s2.gens) t0 := by
    intro H only sq ok
    have noDict : ∀ {b : Addr} {o : Obj} {es : Array DictEntry} {ep : Nat}, t0.heap.get? b = some o → o.data = .dict es ep → H b = none := by
      intro b o es ep e dd
      cases q : H b with
      | none => rfl
      | some u =>
        obtain ⟨rfl, _⟩ := only b u q
        rw [at'] at e
        cases e
        cases dd
    have ns' : ∀ {b : Addr} {m : Str → Option Value}, t0.heap.Ns b m → (hidT t0.heap H).Ns b m := by
      rintro b m ⟨o, es, ep, e, dd, r⟩
      exact ⟨o, es, ep, hidT_get e (noDict e dd), dd, r⟩
    have inB : K.In (hidT t0.heap H) := by
      intro b o e
      refine hidT_get (inK b o e) ?_
      cases q : H b with
      | none => rfl
      | some u =>
        obtain ⟨rfl, z, _⟩ := only b u q
        rw [z] at e
        cases e
    obtain ⟨mc, l1, l2⟩ := lim
    have md : Mod K mg (hidT t0.heap H) := ⟨inB, ns' gl, ⟨mb, ns' bl, blt⟩, mc, ns' l1, l2⟩
    have env : Env0 P w K mg (hidT t0.heap H) callerA [] t0 H :=
      ⟨rfl, md, fun b o e => of_hidT e, Nat.le_of_eq (hidT_size _ _), trivial, fun b hb => absurd hb List.not_mem_nil, ok, AllBare.of_eq nog⟩
    refine codeAny_mono ((F _ inB (ns' gl)).go callerA [] t0 H ⟨[.ref a], []⟩ [.ref a] [.ref a] _ _ room rfl env (bind t0 (.ref a)) (.cons rfl .nil) (want H sq)) ?_
    intro r s2 out
    cases r with
    | error u => exact False.elim out
    | ok fl =>
      cases fl with
      | next => exact False.elim out
      | brk => exact False.elim out
      | cont => exact False.elim out
      | ret u =>
        obtain ⟨v, H2, os, bare, un, ok2, rv, q⟩ := out
        obtain rfl : v = .bl true := q
        obtain rfl : u = Value.bool true := rv
        refine ⟨rfl, OldK.of_keep ?_, os, bare⟩
        intro b o e
        cases z : H b with
        | none => exact un.keep b o e z (by intro y; cases y) (by simp)
        | some u =>
          obtain ⟨_, _, ob, ys, rfl⟩ := only b u z
          obtain ⟨e1, _⟩ := ok b _ z
          obtain ⟨e2, _⟩ := ok2 b _ (un.frzs b ob _ z)
          rw [e] at e1
          cases e1
          exact e2
  cases lk : K.lookup a with
  | some o =>
    have e := inK a o lk
    rw [at'] at e
    cases e
    refine main (fun _ => none) (fun b u z => by cases z) (.inr ⟨_, us.toArray, _, lk, rfl, rfl, rfl, ?_, by simpa using vals⟩) (fun b u z => by cases z)
    rw [List.size_toArray, same]
    exact short
  | none =>
    refine main (fun b => if b = a then some (.frz { cls := .type "list", data := .seq us.toArray } (.lst (ns.map V.int))) else none) ?_ (.inl (.inr ⟨_, if_pos rfl⟩)) ?_
    · intro b u z
      by_cases hb : b = a
      · have z2 := (if_pos hb).symm.trans z
        cases z2
        exact ⟨hb, lk, _, _, rfl⟩
      · have z2 := (if_neg hb).symm.trans z
        cases z2
    · intro b u z
      by_cases hb : b = a
      · have z2 := (if_pos hb).symm.trans z
        subst hb
        cases z2
        exact ⟨at', by rw [List.length_map]; exact short, us, _, vals, at'⟩
      · have z2 := (if_neg hb).symm.trans z
        cases z2
/-- what k_head leaves, from the promise of the law's def -/
theorem walkG {l : PySem.W.OpenLaw} {n k : Nat} {q : Program} {loose : List Str} {XP : (Str → Option Value) → Heap → Prop} {YP : World → Heap → Prop} {d : DefRec}
    {K : Params → PySem.W.Frag} {sp : World → Sp} {x : Str} (hn : l.most = some n) (hn2 : n ≤ sizeLine) (hdf : d.params.defaults = []) (hr : Room k callerA)
    (hY : ∀ (w : World) (h : Heap), YP w h → (K w.params).In h)
    (F : ∀ (w : World) (mg : Str → Option Value) (fa : Addr) (h : Heap), (K w.params).In h → h.Ns mainGlobals mg → mg d.name = some (.ref fa) →
      ∃ fd : FuncData, (∀ (s : Shared) (u : Value), BindsTo s fd ⟨[u], []⟩ [(x, u)]) ∧
        ∀ base : Heap, (K w.params).In base → base.Ns mainGlobals mg → FnG l.prog w (K w.params) mg base k fa fd [x] (sp w))
    (want : ∀ (w : World) (H : Hp) (a : Addr) (ns : List Int), ns.length ≤ n → SqL (K w.params) H a (ns.map V.int) → sp w [.ref a] H (fun v _ => v = .bl true) fun _ _ _ => False) :
    PySem.W.WalkO q loose XP YP l.row.toRowW d [] (fun f vs => PySem.call f vs) := by
  refine Att.attach_callB hn hdf ?_
  intro w s0 s1 mg mb fa o pm cd doc a vs ns G Y ho hd hcd hmg hobj hints hlen _ hg
  obtain ⟨fd, hb, hF⟩ := F w mg fa _ (hY w _ Y) G.T.g hmg
  exact lawG (hY w _ Y) G.T.g G.T.b G.T.builtins G.T.nolimit hg hobj hints (Nat.le_trans hlen hn2) hr hF hb fun H hS => want w H a ns hlen hS
end Lr

namespace Lr
open PySem L2 PySem.Spec PyProof.Rows
def keyD : Key → PyData
  | .inl i => .int i
  | .inr x => .str x
/-! ### data: what a value is, whatever it holds -/
mutual
inductive Dv (H : Hp) : V → PyData → Prop
  | non : Dv H .non .none
  | bl (b : Bool) : Dv H (.bl b) (.bool b)
  | int (i : Int) : Dv H (.int i) (.int i)
  | str (x : Str) : Dv H (.str x) (.str x)
  | lst {a : Addr} {xs : List V} {ds : List PyData} : H a = some (.lst xs) → DvAll H xs ds → Dv H (.ref a) (.list ds)
  | tup {a : Addr} {xs : List V} {ds : List PyData} : H a = some (.tup xs) → DvAll H xs ds → Dv H (.ref a) (.tuple ds)
  | tuf {a : Addr} {o : Obj} {xs : List V} {ds : List PyData} : H a = some (.frz o (.tup xs)) → DvAll H xs ds → Dv H (.ref a) (.tuple ds)
  | dic {a : Addr} {kvs : List (Key × V)} {ds : List (PyData × PyData)} : H a = some (.dK kvs) → DvKv H kvs ds → Dv H (.ref a) (.dict ds)
inductive DvAll (H : Hp) : List V → List PyData → Prop
  | nil : DvAll H [] []
  | cons {v : V} {vs : List V} {d : PyData} {ds : List PyData} : Dv H v d → DvAll H vs ds → DvAll H (v :: vs) (d :: ds)
inductive DvKv (H : Hp) : List (Key × V) → List (PyData × PyData) → Prop
  | nil : DvKv H [] []
  | cons {k : Key} {v : V} {vs : List (Key × V)} {d : PyData} {ds : List (PyData × PyData)} : Dv H v d → DvKv H vs ds → DvKv H ((k, v) :: vs) ((keyD k, d) :: ds)
end
mutual
def hasList : PyData → Bool
  | .list _ => true
  | .tuple xs => hasListAll xs
  | .dict kvs => hasListKv kvs
  | _ => false
def hasListAll : List PyData → Bool
  | [] => false
  | x :: xs => hasList x || hasListAll xs
def hasListKv : List (PyData × PyData) → Bool
  | [] => false
  | (_, v) :: xs => hasList v || hasListKv xs
end
section
variable {H H' : Hp}
mutual
theorem Dv.mono (e : Ex H H') : ∀ {v : V} {d : PyData}, Dv H v d → Dv H' v d
  | _, _, .non => .non
  | _, _, .bl b => .bl b
  | _, _, .int i => .int i
  | _, _, .str x => .str x
  | _, _, .lst h t => .lst (e _ _ h) (DvAll.mono e t)
  | _, _, .tup h t => .tup (e _ _ h) (DvAll.mono e t)
  | _, _, .tuf h t => .tuf (e _ _ h) (DvAll.mono e t)
  | _, _, .dic h t => .dic (e _ _ h) (DvKv.mono e t)
theorem DvAll.mono (e : Ex H H') : ∀ {v : List V} {d : List PyData}, DvAll H v d → DvAll H' v d
  | _, _, .nil => .nil
  | _, _, .cons a b => .cons (Dv.mono e a) (DvAll.mono e b)
theorem DvKv.mono (e : Ex H H') : ∀ {v : List (Key × V)} {d : List (PyData × PyData)}, DvKv H v d → DvKv H' v d
  | _, _, .nil => .nil
  | _, _, .cons a b => .cons (Dv.mono e a) (DvKv.mono e b)
end
theorem DvAll.len : ∀ {vs : List V} {ds : List PyData}, DvAll H vs ds → vs.length = ds.length
  | _, _, .nil => rfl
  | _, _, .cons _ t => congrArg (· + 1) t.len
theorem DvAll.app : ∀ {vs ws : List V} {ds es : List PyData}, DvAll H vs ds → DvAll H ws es → DvAll H (vs ++ ws) (ds ++ es)
  | _, _, _, _, .nil, s => s
  | _, _, _, _, .cons a t, s => .cons a (t.app s)
theorem DvAll.get : ∀ {vs : List V} {ds : List PyData} {i : Nat} {v : V}, DvAll H vs ds → vs[i]? = some v → ∃ d, ds[i]? = some d ∧ Dv H v d
  | _, _, _, _, .nil, e => by simp at e
  | _, _, 0, _, .cons a _, e => by simp at e; subst e; exact ⟨_, rfl, a⟩
  | _, _, i + 1, _, .cons _ t, e => by
    obtain ⟨d, h1, h2⟩ := t.get (i := i) (by simpa using e)
    exact ⟨d, by simpa using h1, h2⟩
theorem DvAll.getD : ∀ {vs : List V} {ds : List PyData} {i : Nat} {d : PyData}, DvAll H vs ds → ds[i]? = some d → ∃ v, vs[i]? = some v ∧ Dv H v d
  | _, _, _, _, .nil, e => by simp at e
  | _, _, 0, _, .cons a _, e => by simp at e; subst e; exact ⟨_, rfl, a⟩
  | _, _, i + 1, _, .cons _ t, e => by
    obtain ⟨v, h1, h2⟩ := t.getD (i := i) (by simpa using e)
    exact ⟨v, by simpa using h1, h2⟩
theorem DvAll.take : ∀ {vs : List V} {ds : List PyData} (n : Nat), DvAll H vs ds → DvAll H (vs.take n) (ds.take n)
  | _, _, 0, _ => .nil
  | _, _, _ + 1, .nil => .nil
  | _, _, n + 1, .cons a t => .cons a (t.take n)
theorem DvAll.drop : ∀ {vs : List V} {ds : List PyData} (n : Nat), DvAll H vs ds → DvAll H (vs.drop n) (ds.drop n)
  | _, _, 0, t => t
  | _, _, _ + 1, .nil => .nil
  | _, _, n + 1, .cons _ t => t.drop n
theorem dv_ints (H : Hp) : ∀ ns : List Int, DvAll H (ns.map V.int) (ns.map PyData.int)
  | [] => .nil
  | n :: r => .cons (.int n) (dv_ints H r)
end
/-! ### repr of data -/
theorem key_reads {h : Heap} {k : Key} {v : Value} (e : keyIs k v = true) : Reads h v (keyD k) [] := by
  rcases keyIs_shape e with ⟨i, t, rfl, rfl⟩ | ⟨x, t, rfl, rfl⟩
  · exact .int i t
  · exact .str x t
theorem keys_read {P : Program} {w : World} {h : Heap} {H : Hp} {es : List DictEntry} {vs : List (Key × Value)} (p : Pairs (mixKind P w) es vs) :
    ∀ {kvs : List (Key × V)} {ds : List (PyData × PyData)}, KV kvs vs → DvKv H kvs ds → ReadsAll h (es.map (·.key)) (ds.map (·.1)) [] := by
  induction p with
  | nil =>
    intro kvs ds q z
    cases q
    cases z
    exact .nil
  | cons h1 _ _ ih =>
    intro kvs ds q z
    cases q with
    | cons r q =>
      cases z with
      | cons a z =>
        have e := r.1
        simp only at e
        rw [← e] at h1
        exact ReadsAll.cons (as := []) (bs := []) (key_reads h1) (ih q z)
section
variable {X : Cx} {pins : List (Addr × Obj)} {σ : L2.St} {H : Hp} {s : Shared}
mutual
theorem Dv.reads (I : Inv X pins σ H s) : ∀ {v : V} {d : PyData} {u : Value}, Dv H v d → RelV v u → ∃ as, Reads s.heap u d as ∧ (hasList d = false → sysModules ∉ as)
  | _, _, _, .non, r => by cases r; exact ⟨[], .none, fun _ => List.not_mem_nil⟩
  | _, _, _, .bl b, r => by cases r; exact ⟨[], .bool b, fun _ => List.not_mem_nil⟩
  | _, _, _, .int i, r => by obtain ⟨t, rfl⟩ := r; exact ⟨[], .int i t, fun _ => List.not_mem_nil⟩
  | _, _, _, .str x, r => by obtain ⟨t, rfl⟩ := r; exact ⟨[], .str x t, fun _ => List.not_mem_nil⟩
  | _, _, _, .lst h t, r => by
    cases r
    obtain ⟨_, its, n, rv, e⟩ := I.hok _ _ h
    obtain ⟨as, q, _⟩ := DvAll.reads I t rv
    exact ⟨_ :: as, .list e rfl rfl (by simpa using q), fun z => by simp [hasList] at z⟩
  | _, _, _, .tup h t, r => by
    cases r
    obtain ⟨_, its, rv, o, e, hc, n, hd⟩ := I.hok _ _ h
    obtain ⟨as, q, z⟩ := DvAll.reads I t rv
    exact ⟨as, .tuple e hc hd (by simpa using q), fun y => z (by simpa [hasList] using y)⟩
  | _, _, _, .tuf h t, r => by
    cases r
    obtain ⟨_, _, its, rv, o, e, hc, n, hd⟩ := I.hok _ _ h
    obtain ⟨as, q, z⟩ := DvAll.reads I t rv
    exact ⟨as, .tuple e hc hd (by simpa using q), fun y => z (by simpa [hasList] using y)⟩
  | _, _, _, .dic h t, r => by
    cases r
    obtain ⟨_, ns, vs, kv, o, es, ep, e, hx, hd, _, hp, _⟩ := I.hok _ _ h
    obtain ⟨bs, q, z⟩ := DvKv.reads I t kv hp
    refine ⟨_ :: [] ++ bs, .dict e hx.1 hd (keys_read hp kv t) q, fun y hm => ?_⟩
    have y2 := z (by simpa [hasList] using y)
    rcases List.mem_cons.mp (by simpa using hm) with rfl | hm
    · simp at ns
    · exact y2 hm
theorem DvAll.reads (I : Inv X pins σ H s) : ∀ {vs : List V} {ds : List PyData} {us : List Value}, DvAll H vs ds → Vals vs us → ∃ as, ReadsAll s.heap us ds as ∧ (hasListAll ds = false → sysModules ∉ as)
  | _, _, _, .nil, .nil => ⟨[], .nil, fun _ => List.not_mem_nil⟩
  | _, _, _, .cons a b, .cons r q => by
    obtain ⟨as, h1, z1⟩ := Dv.reads I a r
    obtain ⟨bs, h2, z2⟩ := DvAll.reads I b q
    refine ⟨as ++ bs, .cons h1 h2, fun y hm => ?_⟩
    simp only [hasListAll, Bool.or_eq_false_iff] at y
    rcases List.mem_append.mp hm with m | m
    · exact z1 y.1 m
    · exact z2 y.2 m
theorem DvKv.reads (I : Inv X pins σ H s) : ∀ {kvs : List (Key × V)} {ds : List (PyData × PyData)} {vs : List (Key × Value)} {es : List DictEntry}, DvKv H kvs ds → KV kvs vs → Pairs (mixKind X.prog X.w) es vs →
    ∃ bs, ReadsAll s.heap (es.map (·.val)) (ds.map (·.2)) bs ∧ (hasListKv ds = false → sysModules ∉ bs)
  | _, _, _, _, .nil, .nil, .nil => ⟨[], .nil, fun _ => List.not_mem_nil⟩
  | _, _, _, _, .cons a b, .cons r q, .cons h1 h2 t => by
    obtain ⟨as, g1, z1⟩ := Dv.reads I a r.2
    obtain ⟨bs, g2, z2⟩ := DvKv.reads I b q t
    refine ⟨as ++ bs, .cons (by show Reads s.heap (DictEntry.val _) _ as; rw [h2]; exact g1) g2, fun y hm => ?_⟩
    simp only [hasListKv, Bool.or_eq_false_iff] at y
    rcases List.mem_append.mp hm with m | m
    · exact z1 y.1 m
    · exact z2 y.2 m
end
end
/-- what repr can show: small enough, and no list beside a dict, but for one just made -/
structure Fit (d : PyData) : Prop where
  sh : d.showable = true
  len : d.shown.length ≤ sizeLine
  dep : d.depth ≤ 60
def NoSys (v : V) (d : PyData) : Prop := hasList d = false ∨ ∃ p ds, v = .ref p ∧ d = .list ds ∧ p ≠ sysModules ∧ hasListAll ds = false
def rRepr : List V → Hp → VK → Prop := fun xs H Q => ∃ v d, xs = [v] ∧ Dv H v d ∧ Fit d ∧ (d.hasDict = true → NoSys v d) ∧ Q (.str d.shown) H
theorem reads_fit {X : Cx} {pins : List (Addr × Obj)} {σ : L2.St} {H : Hp} {s : Shared} {v : V} {d : PyData} {u : Value} (I : Inv X pins σ H s) (hd : Dv H v d) (rv : RelV v u) (ns : d.hasDict = true → NoSys v d) :
    ∃ as, Reads s.heap u d as ∧ (d.hasDict = true → sysModules ∉ as) := by
  by_cases hh : d.hasDict = true
  · rcases ns hh with n | ⟨p, ds, rfl, rfl, np, nl⟩
    · obtain ⟨as, r, z⟩ := Dv.reads I hd rv
      exact ⟨as, r, fun _ => z n⟩
    · cases rv
      cases hd with
      | lst h t =>
        obtain ⟨_, its, n, rv2, e⟩ := I.hok _ _ h
        obtain ⟨as, q, z⟩ := DvAll.reads I t rv2
        refine ⟨p :: as, .list e rfl rfl (by simpa using q), fun _ hm => ?_⟩
        rcases List.mem_cons.mp hm with e | hm
        · exact np e.symm
        · exact z nl hm
  · obtain ⟨as, r, _⟩ := Dv.reads I hd rv
    exact ⟨as, r, fun z => absurd z hh⟩
theorem call_repr {X : Cx} (hg : X.A.guards = some []) (hu : X.A.units + 64 < cLine) : CallR X (.builtin "repr") rRepr := by
  intro pins s σ H xs us Q I r h
  obtain ⟨v, d, rfl, hd, f, ns, q⟩ := h
  obtain ⟨u, rfl, rv⟩ := vals1 r
  have hdep := f.dep
  obtain ⟨as, rd, hs⟩ := reads_fit I hd rv ns
  have fin : ∀ (h' : Heap) (tk : Nat) (t : Tok), (∀ b o, s.heap.get? b = some o → h'.get? b = some o) → EP X pins σ Q (.str d.shown t) { s with heap := h', toks := tk } :=
    fun h' tk t k => ⟨.str d.shown, H, I.kept k, ⟨_, rfl⟩, q⟩
  cases hd with
  | non =>
    cases rv
    exact PySem.P.repr_of_none (fin s.heap _ _ fun _ _ e => e)
  | bl b =>
    cases rv
    exact PySem.P.repr_of_bool (fin s.heap _ _ fun _ _ e => e)
  | int i =>
    obtain ⟨t, rfl⟩ := rv
    exact PySem.P.repr_of_int (by simpa [PyData.showable] using f.sh) (fin s.heap _ _ fun _ _ e => e)
  | str x =>
    obtain ⟨t, rfl⟩ := rv
    exact PySem.P.repr_of_str (fin s.heap _ _ fun _ _ e => e) (by simpa [PyData.shown] using f.len)
  | lst h t =>
    cases rv
    exact repr_of_reads' rd f.sh hs hg (by omega) (fun _ _ e => e) (fun h' u tk k => fin h' tk u k) f.len
  | tup h t =>
    cases rv
    exact repr_of_reads' rd f.sh hs hg (by omega) (fun _ _ e => e) (fun h' u tk k => fin h' tk u k) f.len
  | tuf h t =>
    cases rv
    exact repr_of_reads' rd f.sh hs hg (by omega) (fun _ _ e => e) (fun h' u tk k => fin h' tk u k) f.len
  | dic h t =>
    cases rv
    exact repr_of_reads' rd f.sh hs hg (by omega) (fun _ _ e => e) (fun h' u tk k => fin h' tk u k) f.len
/-- a list display, its place told as no old one -/
def tLstN (t : TA) : TE := fun σ H Q => t σ H fun xs H1 => xs.length ≤ sizeLine ∧ ∀ p, H1 p = none → p ≠ sysModules → Q (.ref p) (upd H1 p (.lst xs))
theorem pe_lstN {X : Cx} {es : List Expr} {t : TA} {pos : Pos} (h : PA X es t) : PE X (.List es pos) (tLstN t) := by
  refine ⟨fun pins s σ H Q I hq => ?_⟩
  refine wpAny_List_spliced (thn (h.run pos pins s σ H _ I hq) ?_)
  rintro us s1 ⟨xs, H1, I1, r, z, q⟩
  refine ⟨by rw [← r.length]; exact z, ?_⟩
  have low : sysModules ≠ s1.heap.objs.size := by
    obtain ⟨o, _, _, e, _⟩ := I1.ok.mod.glob
    have h1 := Heap.lt_size e
    have h2 : sysModules < mainGlobals := by decide
    exact Nat.ne_of_lt (Nat.lt_of_lt_of_le (Nat.lt_trans h2 h1) (Nat.le_trans I1.ok.bsz I1.sz))
  have new : ObjOk X.prog X.w (upd H1 s1.heap.objs.size (.lst xs)) (s1.heap.push { cls := .type "list", data := .seq us.toArray }) s1.heap.objs.size (.lst xs) :=
    ⟨z, us, 0, r, Heap.get?_push_size _ rfl⟩
  exact ⟨.ref s1.heap.objs.size, _, I1.laid (t' := s1.toks) (fun b u e => Heap.get?_push_of_some _ e) (Nat.le_refl _) new, rfl, q _ (I1.hok.fresh (Nat.le_refl _)) low.symm⟩
end Lr

namespace Lr
open PySem L2 PyProof.Rows
/-- the built-in names that the text leaves alone -/
structure Blt (mg : Str → Option Value) : Prop where
  len : mg "len" = none
  range : mg "range" = none
  tuple : mg "tuple" = none
  list : mg "list" = none
  abs : mg "abs" = none
  int : mg "int" = none
  str : mg "str" = none
  bool : mg "bool" = none
  repr : mg "repr" = none
  isinstance : mg "isinstance" = none
  enumerate : mg "enumerate" = none
  sorted : mg "sorted" = none
  set : mg "set" = none
  all : mg "all" = none
  min : mg "min" = none
  max : mg "max" = none
  any : mg "any" = none
  zip : mg "zip" = none
  sum : mg "sum" = none
  reversed : mg "reversed" = none
theorem bt_len : bootBuiltins "len" = some (.builtin "len") := by decide +kernel
theorem bt_abs : bootBuiltins "abs" = some (.builtin "abs") := by decide +kernel
theorem bt_repr : bootBuiltins "repr" = some (.builtin "repr") := by decide +kernel
theorem bt_isinstance : bootBuiltins "isinstance" = some (.builtin "isinstance") := by decide +kernel
theorem bt_sorted : bootBuiltins "sorted" = some (.builtin "sorted") := by decide +kernel
theorem bt_min : bootBuiltins "min" = some (.builtin "min") := by decide +kernel
theorem bt_max : bootBuiltins "max" = some (.builtin "max") := by decide +kernel
theorem bt_any : bootBuiltins "any" = some (.builtin "any") := by decide +kernel
theorem bt_sum : bootBuiltins "sum" = some (.builtin "sum") := by decide +kernel
theorem bt_all : bootBuiltins "all" = some (.builtin "all") := by decide +kernel
theorem bt_int : bootBuiltins "int" = some (.type "int") := by decide +kernel
theorem bt_str : bootBuiltins "str" = some (.type "str") := by decide +kernel
theorem bt_tuple : bootBuiltins "tuple" = some (.type "tuple") := by decide +kernel
theorem bt_list : bootBuiltins "list" = some (.type "list") := by decide +kernel
theorem bt_set : bootBuiltins "set" = some (.type "set") := by decide +kernel
/-! ### tuples: plain or kept as they were made -/
/-- a tuple of xs stands at a, as it was made: its methods can be asked -/
def Ti (H : Hp) (a : Addr) (xs : List V) : Prop := ∃ o : Obj, H a = some (.frz o (.tup xs)) ∧ o.dict = none
/-- a tuple of xs stands at a -/
def Tu (H : Hp) (a : Addr) (xs : List V) : Prop := H a = some (.tup xs) ∨ ∃ o : Obj, H a = some (.frz o (.tup xs))
section
variable {H H' : Hp} {a : Addr} {xs : List V} {ds : List PyData} {K : PySem.W.Frag}
theorem Ti.tu (h : Ti H a xs) : Tu H a xs := by obtain ⟨o, h, _⟩ := h; exact .inr ⟨o, h⟩
theorem Tu.of (h : H a = some (.tup xs)) : Tu H a xs := .inl h
theorem Ti.ex (h : Ti H a xs) (e : Ex H H') : Ti H' a xs := by obtain ⟨o, h, d⟩ := h; exact ⟨o, e _ _ h, d⟩
theorem Tu.ex (h : Tu H a xs) (e : Ex H H') : Tu H' a xs := by
  rcases h with h | ⟨o, h⟩
  · exact .inl (e _ _ h)
  · exact .inr ⟨o, e _ _ h⟩
theorem Tu.sq (h : Tu H a xs) : SqT K H a xs := by
  rcases h with h | ⟨o, h⟩
  · exact .inl (.inl h)
  · exact .inl (.inr ⟨o, h⟩)
theorem Ti.sq (h : Ti H a xs) : SqT K H a xs := h.tu.sq
theorem Tu.dv (h : Tu H a xs) (t : DvAll H xs ds) : Dv H (.ref a) (.tuple ds) := by
  rcases h with h | ⟨o, h⟩
  · exact .tup h t
  · exact .tuf h t
theorem Ti.dv (h : Ti H a xs) (t : DvAll H xs ds) : Dv H (.ref a) (.tuple ds) := h.tu.dv t
theorem Tu.some (h : Tu H a xs) : ∃ o, H a = some o ∧ ∀ ys, o ≠ .lst ys := by
  rcases h with h | ⟨o, h⟩
  · exact ⟨_, h, fun _ z => nomatch z⟩
  · exact ⟨_, h, fun _ z => nomatch z⟩
theorem Tu.upd {p : Addr} {o : HO} (h : Tu H a xs) (hp : H p = none) : Tu (upd H p o) a xs := h.ex (Evl.Ex.new hp)
theorem Ti.upd {p : Addr} {o : HO} (h : Ti H a xs) (hp : H p = none) : Ti (L2.upd H p o) a xs := h.ex (Evl.Ex.new hp)
/-- a list may change -/
theorem Tu.lst {p : Addr} {ys zs : List V} (h : Tu H a xs) (hp : H p = .some (.lst ys)) : Tu (L2.upd H p (.lst zs)) a xs := by
  obtain ⟨o, q, n⟩ := h.some
  have ne : a ≠ p := ne_of q hp (n ys)
  rcases h with h | ⟨o, h⟩
  · exact .inl (by rw [upd_ne ne]; exact h)
  · exact .inr ⟨o, by rw [upd_ne ne]; exact h⟩
theorem Ti.lst {p : Addr} {ys zs : List V} (h : Ti H a xs) (hp : H p = .some (.lst ys)) : Ti (L2.upd H p (.lst zs)) a xs := by
  obtain ⟨o, h, d⟩ := h
  exact ⟨o, by rw [upd_ne (ne_of h hp (fun z => nomatch z))]; exact h, d⟩
end
/-- tuple(a list): kept as it is made -/
def rTupF (K : PySem.W.Frag) : List V → Hp → VK → Prop := fun xs H Q => ∃ p ys, xs = [V.ref p] ∧ SqL K H p ys ∧ ∀ (l : Addr) H', H l = none → Ex H H' → Ti H' l ys → Q (.ref l) H'
theorem k_tuple_F {X : Cx} {K : PySem.W.Frag} (hK : X.K = K) : CallR X (.type "tuple") (rTupF K) := by
  subst hK
  intro pins s σ H xs us Q I r h
  obtain ⟨p, ys, rfl, hq, q⟩ := h
  obtain ⟨u, rfl, rx⟩ := vals1 r
  cases rx
  obtain ⟨its, r', pl, hz⟩ := I.list hq
  have hlen := r'.length
  refine call_tuple_list pl.isList (fun h' kp => ?_) (by simp only [List.size_toArray] <;> omega)
  have I1 : Inv X pins σ H { s with heap := h' } := I.kept (t' := s.toks) kp
  have hn := I1.hok.fresh (Nat.le_refl _)
  have I2 : Inv X pins σ (L2.upd H h'.objs.size (.frz { cls := .type "tuple", data := .seq its.toArray } (.tup ys))) { s with heap := h'.push { cls := .type "tuple", data := .seq its.toArray } } :=
    I1.laid (t' := s.toks) (fun b o e => Heap.get?_push_of_some _ e) (Nat.le_refl _) (show ObjOk X.prog X.w _ _ _ (.frz { cls := .type "tuple", data := .seq its.toArray } (.tup ys)) from ⟨Heap.get?_push_size _ rfl, hz, its, r', IsTup.new _ _⟩)
  exact ⟨.ref h'.objs.size, _, I2, rfl, q _ _ hn (Evl.Ex.new hn) ⟨_, upd_same, rfl⟩⟩
/-! ### rules whose reading names the written part itself (for what stands in a comprehension) -/
section
variable {X : Cx} {K : PySem.W.Frag}
def rTupOf (K : PySem.W.Frag) : List V → Hp → VK → Prop := fun xs H Q => ∃ p ys, xs = [V.ref p] ∧ ((SqL K H p ys ∧ ∀ l, H l = none → Q (.ref l) (upd H l (.tup ys))) ∨ (SqT K H p ys ∧ Q (.ref p) H))
def rLstOf (K : PySem.W.Frag) : List V → Hp → VK → Prop := fun xs H Q => ∃ p ys, xs = [V.ref p] ∧ (SqL K H p ys ∨ SqT K H p ys) ∧ ∀ l, H l = none → Q (.ref l) (upd H l (.lst ys))
def rLenOf (K : PySem.W.Frag) : List V → Hp → VK → Prop := fun xs H Q => ∃ p ys, xs = [V.ref p] ∧ (SqL K H p ys ∨ SqT K H p ys) ∧ Q (.int ys.length) H
theorem k_tuple_of (h : X.K = K) : CallR X (.type "tuple") (rTupOf K) := by subst h; exact call_tuple_of
theorem k_list_of (h : X.K = K) : CallR X (.type "list") (rLstOf K) := by subst h; exact call_list_of
theorem k_len (h : X.K = K) : CallR X (.builtin "len") (rLenOf K) := by subst h; exact call_len_seq
theorem k_isi (h : X.K = K) : CallR X (.builtin "isinstance") (rIsi K) := by subst h; exact call_isi
theorem kx_list (h : X.K = K) : IxR X (rIxL K) := by subst h; exact ix_list
theorem kx_tup (h : X.K = K) : IxR X (rIxT K) := by subst h; exact ix_tup
theorem ks_list (h : X.K = K) : SlR X (rSlL K) := by subst h; exact sl_list
theorem ks_tup (h : X.K = K) : SlR X (rSlA K) := by subst h; exact sl_tupA
theorem ko_catT (h : X.K = K) : OpR X (binaryOp .Add) (rCatA K) := by subst h; exact op_catA
theorem ko_repT (h : X.K = K) : OpR X (binaryOp .Mult) (rRepT K) := by subst h; exact op_repT
theorem ko_eqD (h : X.K = K) (hu : X.A.units + 64 < cLine) : OpR X (compareOp .Eq) (rEqD K) := by subst h; exact op_eqD hu
theorem ko_neD (h : X.K = K) (hu : X.A.units + 64 < cLine) : OpR X (compareOp .NotEq) (rNeD K) := by subst h; exact op_neD hu
theorem ko_in (h : X.K = K) : OpR X (compareOp .In) (rIn K false) := by subst h; exact op_in_seq
theorem ko_notIn (h : X.K = K) : OpR X (compareOp .NotIn) (rIn K true) := by subst h; exact op_notIn_seq
theorem ki_list {tg l : Expr} {tl : TE} (h : X.K = K) (p : PE X l tl) : PI X tg l (iList K tl) := by subst h; exact pi_list p
theorem ki_tup {tg l : Expr} {tl : TE} (h : X.K = K) (p : PE X l tl) : PI X tg l (iTup K tl) := by subst h; exact pi_tup p
end
/-- a def by its name, with its promise -/
def Cal (P : Program) (w : World) (K : PySem.W.Frag) (mg : Str → Option Value) (base : Heap) (k : Nat) (x : Str) (ps : List Str) (sp : Sp) : Prop :=
  ∃ f fd, FnOk P w K mg base CX0 k f fd ps sp ∧ mg x = some (.ref f) ∧ PySem.W.keepIn K (.ref f) = true ∧ Binds K fd ps []
theorem pe_cal {X : Cx} {k : Nat} {x : Str} {ps : List Str} {sp : Sp} {e : Expr} {es : List Expr} {t : TA} {p pos : Pos} (C : Cal X.prog X.w X.K X.mg X.base k x ps sp) (hr : Room k X.A) (hg : Gl X x) (ha : PA X (e :: es) t)
    (hdb : (x == ("__debug__" : Str)) = false := by decide) (he : starEach (e :: es) X.env = (false, eval e X.env) :: starEach es X.env := by rfl) (hpl : (backTo pos (starEach es X.env)).any (·.1) = false := by rfl) :
    PE X (.Call (.Name x p) (e :: es) [] pos) (tCall sp [] E0 t) := by
  obtain ⟨f, fd, G, m, kp, b⟩ := C
  exact pe_call G hr hg m kp b .nil pass0 ha hdb he hpl
/-- a body that makes a drawer closes it ahead of its return -/
def tShut (P : Program) (w : World) (t : TS) : TS := fun D σ H => t ⟨fun _ _ => False, fun v H' => (∃ c d a tm ds, v = .ref c ∧ H' c = some (.dK (canKvs d a tm)) ∧ H' d = some (.lst (ds.map V.int)) ∧ DeepOk ds ∧ d ≠ c ∧
    D.rt v (upd (upd H' c (.ext (phiC P w c d a))) d (.ext (phiD P w d)))), fun _ _ => False, fun _ _ => False⟩ σ H
theorem pss_shut {X : Cx} {st : List Stmt} {t : TS} (h : PSs X st t) : PSs X st (tShut X.prog X.w t) := by
  refine ⟨fun pins s σ H D I hw => ?_⟩
  refine thn (h.run pins s σ _ _ I hw) fun f s1 q => ?_
  cases f with
  | next => obtain ⟨_, _, _, z⟩ := q; exact z.elim
  | brk => obtain ⟨_, _, _, z⟩ := q; exact z.elim
  | cont => obtain ⟨_, _, _, z⟩ := q; exact z.elim
  | ret v =>
    obtain ⟨x, σ', H', I2, r, c, d, a, tm, ds, rfl, e1, e2, g, hcd, z⟩ := q
    exact ⟨_, σ', _, closed I2 e1 e2 g hcd, r, z⟩
theorem at_in {α : Type} {xs : List α} {r : Int} (h0 : 0 ≤ r) (h1 : r < (xs.length : Int)) : ∃ v, v ∈ xs ∧ atI xs r = some v ∧ xs[r.toNat]? = some v := by
  have hr : r.toNat < xs.length := by omega
  have er : ((r.toNat : Nat) : Int) = r := by omega
  have q := atI_nat (List.getElem?_eq_getElem hr)
  rw [er] at q
  exact ⟨xs[r.toNat], List.getElem_mem hr, q, List.getElem?_eq_getElem hr⟩
theorem ints_of : ∀ {ys : List V}, (∀ (k : Nat) (v : V), ys[k]? = some v → ∃ z, v = .int z) → ∃ cs : List Int, ys = cs.map V.int
  | [], _ => ⟨[], rfl⟩
  | y :: r, h => by
    obtain ⟨z, rfl⟩ := h 0 y rfl
    obtain ⟨cs, rfl⟩ := ints_of (ys := r) fun k v e => h (k + 1) v (by simpa using e)
    exact ⟨z :: cs, rfl⟩
theorem cut_all {xs : List V} {n : Nat} (h : xs.length ≤ n) : cutV xs none (some (n : Int)) = xs := by
  unfold cutV
  rw [HT.sIx_none, HT.sIx_nat, Nat.min_eq_right h]
  simp
/-! ### comprehensions whose items stay known while the new list grows -/
/-- all but lists is as it was -/
def Exl (H H' : Hp) : Prop := ∀ a o, (∀ xs, o ≠ .lst xs) → H a = some o → H' a = some o
theorem Exl.refl (H : Hp) : Exl H H := fun _ _ _ h => h
theorem Exl.of {H H' : Hp} (e : Ex H H') : Exl H H' := fun a o _ h => e a o h
theorem Exl.trans {H H1 H2 : Hp} (a : Exl H H1) (b : Exl H1 H2) : Exl H H2 := fun x o n h => b x o n (a x o n h)
theorem Exl.grow {H : Hp} {D : Addr} {xs ys : List V} (h : H D = some (.lst xs)) : Exl H (upd H D (.lst ys)) := fun a o n e => by
  rw [upd_ne (ne_of e h (n xs))]
  exact e
theorem nl_tup {ds : List PyData} (h : hasList (.tuple ds) = false) : hasListAll ds = false := by simpa [hasList] using h
theorem nl_dic {ds : List (PyData × PyData)} (h : hasList (.dict ds) = false) : hasListKv ds = false := by simpa [hasList] using h
theorem nl_hd {d : PyData} {ds : List PyData} (h : hasListAll (d :: ds) = false) : hasList d = false := by simp only [hasListAll, Bool.or_eq_false_iff] at h; exact h.1
theorem nl_tl {d : PyData} {ds : List PyData} (h : hasListAll (d :: ds) = false) : hasListAll ds = false := by simp only [hasListAll, Bool.or_eq_false_iff] at h; exact h.2
theorem nk_hd {k d : PyData} {ds : List (PyData × PyData)} (h : hasListKv ((k, d) :: ds) = false) : hasList d = false := by simp only [hasListKv, Bool.or_eq_false_iff] at h; exact h.1
theorem nk_tl {k d : PyData} {ds : List (PyData × PyData)} (h : hasListKv ((k, d) :: ds) = false) : hasListKv ds = false := by simp only [hasListKv, Bool.or_eq_false_iff] at h; exact h.2
theorem nl_lst {ds : List PyData} {p : Prop} (h : hasList (.list ds) = false) : p := by simp [hasList] at h
theorem tup_nolst {xs : List V} : ∀ ys, HO.tup xs ≠ .lst ys := fun _ y => nomatch y
theorem frz_nolst {o : Obj} {u : HO} : ∀ ys, HO.frz o u ≠ .lst ys := fun _ y => nomatch y
theorem dK_nolst {xs : List (Key × V)} : ∀ ys, HO.dK xs ≠ .lst ys := fun _ y => nomatch y
theorem yesT {σ : L2.St} {H : Hp} {A B : Hp → Prop} (h : A H) : tYes σ H (fun b H3 => if b = true then A H3 else B H3) := by
  show (if true = true then A H else B H)
  rw [if_pos rfl]
  exact h
section
variable {H H' : Hp}
mutual
theorem Dv.exl (e : Exl H H') : ∀ {v : V} {d : PyData}, Dv H v d → (hasList d = false → Dv H' v d)
  | _, _, .non => fun _ => .non
  | _, _, .bl b => fun _ => .bl b
  | _, _, .int i => fun _ => .int i
  | _, _, .str x => fun _ => .str x
  | _, _, .lst _ _ => fun z => nl_lst z
  | _, _, .tup h t => fun z => .tup (e _ _ tup_nolst h) (DvAll.exl e t (nl_tup z))
  | _, _, .tuf h t => fun z => .tuf (e _ _ frz_nolst h) (DvAll.exl e t (nl_tup z))
  | _, _, .dic h t => fun z => .dic (e _ _ dK_nolst h) (DvKv.exl e t (nl_dic z))
theorem DvAll.exl (e : Exl H H') : ∀ {v : List V} {d : List PyData}, DvAll H v d → (hasListAll d = false → DvAll H' v d)
  | _, _, .nil => fun _ => .nil
  | _, _, .cons a b => fun z => .cons (Dv.exl e a (nl_hd z)) (DvAll.exl e b (nl_tl z))
theorem DvKv.exl (e : Exl H H') : ∀ {v : List (Key × V)} {d : List (PyData × PyData)}, DvKv H v d → (hasListKv d = false → DvKv H' v d)
  | _, _, .nil => fun _ => .nil
  | _, _, .cons a b => fun z => .cons (Dv.exl e a (nk_hd z)) (DvKv.exl e b (nk_tl z))
end
end
/-- an item's value is told by the item's place: what M says of it holds on while other lists change -/
def Gives (te : TE) (σ : L2.St) (H1 : Hp) (M : V → Hp → Prop) : Prop := ∀ H', Ex H1 H' → ∀ Q : VK, (∀ v H2, Ex H' H2 → M v H2 → Q v H2) → te σ H' Q
section
variable {K : PySem.W.Frag} {a : Addr} {xs : List V} {te : TE} {vs : List Nat} {σ : L2.St} {H1 : Hp} {D : Addr} {Qd : Hp → Prop} {j : Nat}
theorem made_turn {i : Nat} {M : Nat → V → Hp → Prop} {σ2 : L2.St} {H' : Hp} {ys : List V} (hD : H1 D = none) (st : ∀ i v G G', Ex H1 G → Ex H1 G' → Exl G G' → M i v G → M i v G') (e : Ex H1 H') (hy : H' D = some (.lst ys)) (hl : ys.length = i) (hi : i < 100000)
    (hm : ∀ (k : Nat) (v : V), ys[k]? = some v → M k v H') (he : Gives te σ2 H1 (M i)) :
    te σ2 H' fun y H4 => ∃ acc, H4 D = some (.lst acc) ∧ acc.length < sizeLine ∧ ∃ zs : List V, zs.length = i + 1 ∧ Ex H1 (upd H4 D (.lst (acc ++ [y]))) ∧ upd H4 D (.lst (acc ++ [y])) D = some (.lst zs) ∧ ∀ (k : Nat) (v : V), zs[k]? = some v → M k v (upd H4 D (.lst (acc ++ [y]))) := by
  refine he H' e _ fun v H2 e2 m => ⟨ys, e2 _ _ hy, by rw [hl]; exact Evl.sz_lt hi, ys ++ [v], by simp [hl], Evl.Ex.mut (e.trans e2) hD, upd_same, fun k u hk => ?_⟩
  have g : Exl H2 (upd H2 D (.lst (ys ++ [v]))) := Exl.grow (e2 _ _ hy)
  have e3 : Ex H1 (upd H2 D (.lst (ys ++ [v]))) := Evl.Ex.mut (e.trans e2) hD
  by_cases hk2 : k < ys.length
  · rw [List.getElem?_append_left hk2] at hk
    exact st k u H' _ e e3 ((Exl.of e2).trans g) (hm k u hk)
  · have hz := (List.getElem?_eq_some_iff.mp hk).1
    have ek : k = i := by simp at hz; omega
    subst ek
    rw [List.getElem?_append_right (by omega), hl] at hk
    simp at hk
    subst hk
    exact st k v H2 _ (e.trans e2) e3 g m
/-- [e for x in a list] -/
theorem made_list (M : Nat → V → Hp → Prop) (hD : H1 D = none) (hx : SqL K H1 a xs) (hn : xs.length < 100000) (st : ∀ i v G G', Ex H1 G → Ex H1 G' → Exl G G' → M i v G → M i v G')
    (hw : ∀ x, wipe ((wipe σ vs).set j (some x)) vs = wipe σ vs) (he : ∀ i x, xs[i]? = some x → Gives te ((wipe σ vs).set j (some x)) H1 (M i))
    (hd : ∀ (ys : List V) H', ys.length = xs.length → Ex H1 H' → H' D = some (.lst ys) → (∀ (k : Nat) (v : V), ys[k]? = some v → M k v H') → Qd H') :
    ∃ W : Nat → Nat → Hp → Prop, (∃ m, W 0 m (upd H1 D (.lst []))) ∧ ∀ i m H, W i m H →
      ((Itl K a).stop i H ∧ Qd H) ∨ ((Itl K a).go i H ∧ ∃ Nx : Hp → Prop, (∀ H', Nx H' → ∃ m', m' < m ∧ W (i + 1) m' H') ∧ ∀ x H', (Itl K a).yld i H x H' → gName j x (wipe σ vs) H' fun σ2 H2 => wipe σ2 vs = wipe σ vs ∧ tYes σ2 H2 fun b H3 =>
        if b = true then te σ2 H3 fun y H4 => ∃ acc, H4 D = some (.lst acc) ∧ acc.length < sizeLine ∧ Nx (upd H4 D (.lst (acc ++ [y]))) else Nx H3) :=
  lc_list (xs := xs) (fun i H' => ∃ zs : List V, zs.length = i ∧ Ex H1 H' ∧ H' D = some (.lst zs) ∧ ∀ (k : Nat) (v : V), zs[k]? = some v → M k v H') ⟨[], rfl, Evl.Ex.new hD, upd_same, fun k v z => by simp at z⟩
    (fun i H' _ ⟨_, _, e, _⟩ => Evl.ex_l e hx) (fun i x H' hi ⟨zs, hl, e, hy, hm⟩ => by
      have lt := (List.getElem?_eq_some_iff.mp hi).1
      exact ⟨hw x, yesT (made_turn hD st e hy hl (by omega) hm (he i x hi))⟩)
    (fun H' ⟨zs, hl, e, hy, hm⟩ => hd zs H' hl e hy hm)
/-- [e for x in a tuple] -/
theorem made_tup (M : Nat → V → Hp → Prop) (hD : H1 D = none) (hx : SqT K H1 a xs) (hn : xs.length < 100000) (st : ∀ i v G G', Ex H1 G → Ex H1 G' → Exl G G' → M i v G → M i v G')
    (hw : ∀ x, wipe ((wipe σ vs).set j (some x)) vs = wipe σ vs) (he : ∀ i x, xs[i]? = some x → Gives te ((wipe σ vs).set j (some x)) H1 (M i))
    (hd : ∀ (ys : List V) H', ys.length = xs.length → Ex H1 H' → H' D = some (.lst ys) → (∀ (k : Nat) (v : V), ys[k]? = some v → M k v H') → Qd H') :
    ∃ W : Nat → Nat → Hp → Prop, (∃ m, W 0 m (upd H1 D (.lst []))) ∧ ∀ i m H, W i m H →
      ((Itt K a).stop i H ∧ Qd H) ∨ ((Itt K a).go i H ∧ ∃ Nx : Hp → Prop, (∀ H', Nx H' → ∃ m', m' < m ∧ W (i + 1) m' H') ∧ ∀ x H', (Itt K a).yld i H x H' → gName j x (wipe σ vs) H' fun σ2 H2 => wipe σ2 vs = wipe σ vs ∧ tYes σ2 H2 fun b H3 =>
        if b = true then te σ2 H3 fun y H4 => ∃ acc, H4 D = some (.lst acc) ∧ acc.length < sizeLine ∧ Nx (upd H4 D (.lst (acc ++ [y]))) else Nx H3) :=
  lc_tup (xs := xs) (fun i H' => ∃ zs : List V, zs.length = i ∧ Ex H1 H' ∧ H' D = some (.lst zs) ∧ ∀ (k : Nat) (v : V), zs[k]? = some v → M k v H') ⟨[], rfl, Evl.Ex.new hD, upd_same, fun k v z => by simp at z⟩
    (fun i H' _ ⟨_, _, e, _⟩ => Evl.ex_t e hx) (fun i x H' hi ⟨zs, hl, e, hy, hm⟩ => by
      have lt := (List.getElem?_eq_some_iff.mp hi).1
      exact ⟨hw x, yesT (made_turn hD st e hy hl (by omega) hm (he i x hi))⟩)
    (fun H' ⟨zs, hl, e, hy, hm⟩ => hd zs H' hl e hy hm)
/-- [e for k in range(n)] -/
theorem made_range {n : Nat} (M : Nat → V → Hp → Prop) (hD : H1 D = none) (hn : n < 100000) (st : ∀ i v G G', Ex H1 G → Ex H1 G' → Exl G G' → M i v G → M i v G')
    (hw : ∀ x, wipe ((wipe σ vs).set j (some x)) vs = wipe σ vs) (he : ∀ i : Nat, i < n → Gives te ((wipe σ vs).set j (some (.int (i : Int)))) H1 (M i))
    (hd : ∀ (ys : List V) H', ys.length = n → Ex H1 H' → H' D = some (.lst ys) → (∀ (k : Nat) (v : V), ys[k]? = some v → M k v H') → Qd H') :
    ∃ W : Nat → Nat → Hp → Prop, (∃ m, W 0 m (upd H1 D (.lst []))) ∧ ∀ i m H, W i m H →
      ((Itr 0 n).stop i H ∧ Qd H) ∨ ((Itr 0 n).go i H ∧ ∃ Nx : Hp → Prop, (∀ H', Nx H' → ∃ m', m' < m ∧ W (i + 1) m' H') ∧ ∀ x H', (Itr 0 n).yld i H x H' → gName j x (wipe σ vs) H' fun σ2 H2 => wipe σ2 vs = wipe σ vs ∧ tYes σ2 H2 fun b H3 =>
        if b = true then te σ2 H3 fun y H4 => ∃ acc, H4 D = some (.lst acc) ∧ acc.length < sizeLine ∧ Nx (upd H4 D (.lst (acc ++ [y]))) else Nx H3) :=
  lc_range (lo := 0) (n := n) (fun i H' => ∃ zs : List V, zs.length = i ∧ Ex H1 H' ∧ H' D = some (.lst zs) ∧ ∀ (k : Nat) (v : V), zs[k]? = some v → M k v H') ⟨[], rfl, Evl.Ex.new hD, upd_same, fun k v z => by simp at z⟩
    (fun i H' hi ⟨zs, hl, e, hy, hm⟩ => by
      have g := made_turn hD st e hy hl (by omega) hm (he i hi)
      have e0 : (0 : Int) + (i : Int) = (i : Int) := Int.zero_add _
      show wipe ((wipe σ vs).set j (some (.int (0 + (i : Int))))) vs = wipe σ vs ∧ tYes ((wipe σ vs).set j (some (.int (0 + (i : Int))))) H' _
      rw [e0]
      exact ⟨hw _, yesT g⟩)
    (fun H' ⟨zs, hl, e, hy, hm⟩ => hd zs H' hl e hy hm)
end
/-! ### tuples cut and joined: some tuple of that content, new or old -/
section
variable {K : PySem.W.Frag} {H : Hp} {a b : Addr} {xs ys : List V} {Q : VK}
theorem cut_whole {lo hi : Option Int} (h : HT.sIx xs.length 0 lo = 0 ∧ HT.sIx xs.length xs.length hi = xs.length) : cutV xs lo hi = xs := by
  unfold cutV
  rw [h.1, h.2]
  simp
theorem sl_at {lo hi : Option Int} (h : H a = some (.tup xs)) (k : ∀ b H', Ex H H' → H' b = some (.tup (cutV xs lo hi)) → Q (.ref b) H') : rSlA K (.ref a) lo hi H Q :=
  ⟨a, xs, rfl, SqT.of h, fun w => k a H (Evl.Ex.refl H) (by rw [cut_whole w]; exact h), fun _ p hp => k p _ (Evl.Ex.new hp) upd_same⟩
theorem cat_at (h1 : H a = some (.tup xs)) (h2 : H b = some (.tup ys)) (hl : xs.length + ys.length ≤ 100000) (k : ∀ p H', Ex H H' → H' p = some (.tup (xs ++ ys)) → Q (.ref p) H') : rCatA K (.ref a) (.ref b) H Q :=
  ⟨a, b, xs, ys, rfl, rfl, SqT.of h1, SqT.of h2, Evl.sz_of hl, fun z => k b H (Evl.Ex.refl H) (by subst z; exact h2), fun _ z => k a H (Evl.Ex.refl H) (by subst z; rw [List.append_nil]; exact h1), fun _ _ p hp => k p _ (Evl.Ex.new hp) upd_same⟩
end
theorem cut_from {xs : List V} {k : Nat} : cutV xs (some (k : Int)) none = xs.drop k := by
  unfold cutV
  rw [HT.sIx_none, HT.sIx_nat]
  by_cases h : k ≤ xs.length
  · rw [Nat.min_eq_left h, List.take_of_length_le (by simp)]
  · rw [Nat.min_eq_right (by omega), List.drop_of_length_le (Nat.le_refl _), List.drop_of_length_le (by omega)]
    simp
theorem cut_to {xs : List V} {k : Nat} : cutV xs none (some (k : Int)) = xs.take k := by
  unfold cutV
  rw [HT.sIx_none, HT.sIx_nat]
  by_cases h : k ≤ xs.length
  · rw [Nat.min_eq_left h]
    simp
  · rw [Nat.min_eq_right (by omega)]
    simp [List.take_of_length_le (show xs.length ≤ k by omega)]
/-! ### [x for x in a tuple if ..] -/
section
variable {K : PySem.W.Frag} {a : Addr} {xs : List V} {tt : TT} {te : TE} {vs : List Nat} {σ : L2.St} {H1 : Hp} {D : Addr} {Qd : Hp → Prop} {j : Nat}
theorem filt_tup (f : V → Bool) (hD : H1 D = none) (hx : SqT K H1 a xs) (hn : xs.length < 100000) (hw : ∀ x, wipe ((wipe σ vs).set j (some x)) vs = wipe σ vs)
    (ht : ∀ x H', x ∈ xs → Ex H1 H' → ∀ Q : Bool → Hp → Prop, Q (f x) H' → tt ((wipe σ vs).set j (some x)) H' Q) (he : ∀ x H', Ex H1 H' → ∀ Q : VK, Q x H' → te ((wipe σ vs).set j (some x)) H' Q)
    (hd : ∀ H', Ex H1 H' → H' D = some (.lst (xs.filter f)) → Qd H') :
    ∃ W : Nat → Nat → Hp → Prop, (∃ m, W 0 m (upd H1 D (.lst []))) ∧ ∀ i m H, W i m H →
      ((Itt K a).stop i H ∧ Qd H) ∨ ((Itt K a).go i H ∧ ∃ Nx : Hp → Prop, (∀ H', Nx H' → ∃ m', m' < m ∧ W (i + 1) m' H') ∧ ∀ x H', (Itt K a).yld i H x H' → gName j x (wipe σ vs) H' fun σ2 H2 => wipe σ2 vs = wipe σ vs ∧ tt σ2 H2 fun b H3 =>
        if b = true then te σ2 H3 fun y H4 => ∃ acc, H4 D = some (.lst acc) ∧ acc.length < sizeLine ∧ Nx (upd H4 D (.lst (acc ++ [y]))) else Nx H3) := by
  refine lc_tup (xs := xs) (fun i H' => Ex H1 H' ∧ H' D = some (.lst ((xs.take i).filter f)) ∧ i ≤ xs.length) ⟨Evl.Ex.new hD, by simp [upd_same], Nat.zero_le _⟩ (fun i H' _ h => Evl.ex_t h.1 hx) ?_ ?_
  · rintro i x H' hi ⟨e, hy, hle⟩
    have lt := (List.getElem?_eq_some_iff.mp hi).1
    have hxm : x ∈ xs := List.mem_of_getElem? hi
    have step : xs.take (i + 1) = xs.take i ++ [x] := by
      rw [List.take_succ, hi]
      rfl
    refine ⟨hw x, ht x H' hxm e _ ?_⟩
    cases hf : f x with
    | true =>
      refine iteT (he x H' e _ ⟨_, hy, ?_, Evl.Ex.mut e hD, ?_, lt⟩)
      · refine Nat.lt_of_le_of_lt (List.length_filter_le _ _) (Evl.sz_lt ?_)
        rw [List.length_take]
        omega
      · rw [upd_same, step, List.filter_append]
        simp [hf]
    | false =>
      refine iteF ⟨e, ?_, lt⟩
      rw [hy, step, List.filter_append]
      simp [hf]
  · rintro H' ⟨e, hy, _⟩
    rw [List.take_of_length_le (Nat.le_refl _)] at hy
    exact hd H' e hy
end
end Lr

namespace Lr
open PySem L2 PySem.Spec PyProof.Rows
/-! ### for i, c in enumerate(a text) -/
def ItS (z : Str) : It :=
  ⟨fun i _ => i < z.cps.size, fun i H v G => ∃ T c, v = .ref T ∧ H T = none ∧ z.cps[i]? = some c ∧ G = upd H T (.tup [.int (i : Nat), .str ⟨#[c]⟩]), fun i _ => z.cps.size ≤ i⟩
theorem turn_enumS {P : Program} {w : World} {K : PySem.W.Frag} {elts : List Expr} {kk : Nat} {tpos : Pos} (z : Str) (tk : Tok) (e it : Addr) :
    Turn P w K (.Tuple elts kk tpos) (ItS z) [e, it] e (fun i h => (∃ old, IsEnum h e it ((i : Nat) : Int) old) ∧ h.IsStrIter it (strIterType z) z tk i ∧ e ≠ it ∧ i ≤ z.cps.size) where
  mem := by simp
  obj := by
    rintro i h ⟨⟨old, he⟩, ⟨o, ho, hc, hd⟩, _⟩ b hb
    rcases (show b = e ∨ b = it by simpa using hb) with q | q
    · subst q
      exact ⟨_, he, fun v q => nomatch q⟩
    · subst q
      exact ⟨o, ho, fun v q => by rw [hd] at q; cases q⟩
  keep := by
    rintro i h h2 ⟨⟨old, he⟩, ⟨o, ho, r⟩, hne⟩ k
    exact ⟨⟨old, k e (by simp) _ he⟩, ⟨o, k it (by simp) _ ho, r⟩, hne⟩
  item := by
    intro X hP hw hK hc i pins s σ H E I hf st hg
    subst hP hw hK
    obtain ⟨⟨old, he⟩, hit, hne, hle⟩ := st
    have eLt : e < s.heap.objs.size := Heap.lt_size he
    have iLt : it < s.heap.objs.size := by obtain ⟨_, q, _⟩ := hit; exact Heap.lt_size q
    have D := Draws.text (prog := X.prog) (w := X.w) (A := X.A.in1) (I.ok.hd hc) it z tk
    refine wpAny_pyNext_enum_itemD D he hit hg hne (by simpa using hne) fun x h2 t2 hx out hit2 hT hsz hk => ?_
    obtain ⟨c, u, hcx, rfl⟩ := hx
    refine ⟨_, rfl, wpAny_letOwnedTupleGo_enum (s := { s with heap := h2, toks := t2 + 1 }) out fun h3 he3 sb => ?_⟩
    have hT3 : h3.get? s.heap.objs.size = some { cls := .type "tuple", data := .seq #[.int i t2, .str ⟨#[c]⟩ u] } := (sb.2 _ (Nat.ne_of_gt eLt)).trans hT
    have new : ObjOk X.prog X.w (upd H s.heap.objs.size (.tup [.int (i : Nat), .str ⟨#[c]⟩])) h3 s.heap.objs.size (.tup [.int (i : Nat), .str ⟨#[c]⟩]) :=
      ⟨(by show 2 ≤ sizeLine; decide), [.int i t2, .str ⟨#[c]⟩ u], .cons ⟨_, rfl⟩ (.cons ⟨_, rfl⟩ .nil), ⟨_, hT3, rfl, _, rfl⟩⟩
    have kept : ∀ b ob, b ∉ [e, it] → s.heap.get? b = some ob → h3.get? b = some ob := fun b ob hb q =>
      (sb.2 b (fun y => hb (by simp [y]))).trans (hk b ob (fun y => hb (by simp [y])) (fun y => hb (by simp [y])) q)
    have I3 : Inv X pins σ (upd H s.heap.objs.size (.tup [.int (i : Nat), .str ⟨#[c]⟩])) { s with heap := h3, toks := t2 + 1 } := I.turnedNew (ch := [e, it]) kept hf (Nat.le_refl _) new
    refine ⟨.ref s.heap.objs.size, _, I3, rfl, ⟨_, c, rfl, I.hok.fresh (Nat.le_refl _), hcx, rfl⟩, ⟨⟨.str ⟨#[c]⟩ u, ?_⟩, ?_, hne, hg⟩, fun b hb => ?_⟩
    · have e1 : ((i + 1 : Nat) : Int) = (i : Int) + 1 := by omega
      rw [e1]
      exact he3
    · obtain ⟨o, ho, r⟩ := hit2
      exact ⟨o, (sb.2 it (Ne.symm hne)).trans ho, r⟩
    · have lt : b < s.heap.objs.size := by
        rcases (show b = e ∨ b = it by simpa using hb) with q | q <;> (rw [q]; assumption)
      rw [upd_ne (Nat.ne_of_lt lt)]
      exact (hf b hb).1
  done := by
    intro X hP hw hK hc i pins s σ H E I hf st hg
    subst hP hw hK
    obtain ⟨⟨old, he⟩, hit, hne, hle⟩ := st
    have ei : i = z.cps.size := Nat.le_antisymm hle hg
    subst ei
    have D := Draws.text (prog := X.prog) (w := X.w) (A := X.A.in1) (I.ok.hd hc) it z tk
    obtain ⟨f0, f1, f2, f3, f4, f5⟩ := hf it (by simp)
    exact wpAny_pyNext_enum_endD D he hit fun h2 eb => ⟨rfl, I.turned (t' := s.toks) (fun b o hb q => eb b o hb q) f0 f1 f3 f4 f5⟩
  self := by
    rintro A i s Q E ⟨⟨_, he⟩, _⟩ h
    exact wpAny_pyIter_enum he h
def iEnumS (ta : TA) : TI := fun σ H R => ta σ H fun vs G => ∃ z, vs = [.str z] ∧ R (ItS z) G
theorem pi_enumS {X : Cx} {e : Expr} {ta : TA} {p pos tpos : Pos} {elts : List Expr} {kk : Nat} (hg : Gl X "enumerate") (hm : X.mg "enumerate" = none) (ha : PA X [e] ta)
    (hs : starEach [e] X.env = [(false, eval e X.env)] := by rfl) : PI X (.Tuple elts kk tpos) (.Call (.Name "enumerate" p) [e] [] pos) (iEnumS ta) := by
  refine ⟨fun pins s σ H R I h => ?_⟩
  refine Call_ (ld_blt I hg hm boot_enumerate (PyProof.Rows.callWith_type1 (thn (ha.run pos pins s σ H _ I h) ?_) hs rfl))
  rintro us s1 ⟨vs, G, I1, r1, z, rfl, q⟩
  cases r1 with
  | cons r rr =>
    cases rr
    obtain ⟨tk, rfl⟩ := r
    refine call_enumerate_str fun h2 he hit hsz hk => wpAny_pyIter_enum he ?_
    have I2 : Inv X pins σ G { s1 with heap := h2 } := I1.kept (t' := s1.toks) hk
    refine ⟨s1.heap.objs.size + 1, [s1.heap.objs.size + 1, s1.heap.objs.size], _, _, G, rfl, I2, turn_enumS z tk (s1.heap.objs.size + 1) s1.heap.objs.size, ⟨⟨.none, he⟩, hit, Nat.succ_ne_self _, Nat.zero_le _⟩, fun b hb => ?_, q⟩
    have le : s1.heap.objs.size ≤ b := by
      rcases (show b = s1.heap.objs.size + 1 ∨ b = s1.heap.objs.size by simpa using hb) with y | y
      · rw [y]; exact Nat.le_succ _
      · rw [y]; exact Nat.le_refl _
    exact I1.fpOk le (I1.hok.fresh le)
/-- the loop: an invariant over the turn's number; the pair is new -/
theorem for_enumS {K : PySem.W.Frag} {z : Str} {i j : Nat} {tb : TS} {D : Ends} {σ : L2.St} {H : Hp} (Pv : Nat → L2.St → Hp → Prop) (h0 : Pv 0 σ H)
    (hs : ∀ n c σ2 H2 H3, z.cps[n]? = some c → Pv n σ2 H2 → Ex H2 H3 → tb { D with nx := Pv (n + 1), ct := Pv (n + 1), bk := D.nx } ((σ2.set i (some (.int (n : Int)))).set j (some (.str ⟨#[c]⟩))) H3)
    (hd : ∀ σ2 H2, Pv z.cps.size σ2 H2 → D.nx σ2 H2) :
    ∃ W : Nat → Nat → L2.St → Hp → Prop, (∃ m, W 0 m σ H) ∧ ∀ n m σ2 H2, W n m σ2 H2 →
      ((ItS z).stop n H2 ∧ D.nx σ2 H2) ∨ ((ItS z).go n H2 ∧ ∃ N : L2.St → Hp → Prop, (∀ σ3 H3, N σ3 H3 → ∃ m2, m2 < m ∧ W (n + 1) m2 σ3 H3) ∧
        ∀ x H3, (ItS z).yld n H2 x H3 → gTup K 2 (gCons (gName i) (gCons (gName j) gNil)) x σ2 H3 fun σ4 H4 => tb { D with nx := N, ct := N, bk := D.nx } σ4 H4) := by
  refine ⟨fun n m σ2 H2 => m = z.cps.size - n ∧ n ≤ z.cps.size ∧ Pv n σ2 H2, ⟨_, rfl, Nat.zero_le _, h0⟩, ?_⟩
  rintro n m σ2 H2 ⟨rfl, hn, p⟩
  by_cases lt : n < z.cps.size
  · refine .inr ⟨lt, Pv (n + 1), fun σ3 H3 q => ⟨z.cps.size - (n + 1), by omega, rfl, lt, q⟩, ?_⟩
    rintro x H3 ⟨T, c, rfl, hT, hc, rfl⟩
    exact ⟨T, _, rfl, SqT.of upd_same, rfl, _, _, rfl, _, _, rfl, rfl, hs n c σ2 H2 _ hc p (Evl.Ex.new hT)⟩
  · have e : n = z.cps.size := by omega
    subst e
    exact .inl ⟨Nat.le_refl _, hd σ2 H2 p⟩
end Lr

namespace Lr
open PySem L2
def kindD : PyData → String
  | .none => "NoneType"
  | .bool _ => "bool"
  | .int _ => "int"
  | .str _ => "str"
  | .list _ => "list"
  | .tuple _ => "tuple"
  | .dict _ => "dict"
theorem ty_of {K : PySem.W.Frag} {H : Hp} {v : V} {d : PyData} (h : Dv H v d) : TyX K H v (.type (kindD d)) := by
  cases h with
  | non => exact .base .non
  | bl b => exact .base (.bl b)
  | int i => exact .base (.int i)
  | str x => exact .base (.str x)
  | lst h t => exact .base (.lst h)
  | tup h t => exact .base (.tup h)
  | tuf h t => exact .fTuple h
  | dic h t => exact .base (.dK h)
/-- what isinstance(d, T) answers -/
def isiD (T : String) (d : PyData) : Bool := kindD d == T || (T == "int" && kindD d == "bool")
theorem kit_all : ∀ a ∈ ["NoneType", "bool", "int", "str", "list", "tuple", "dict"], ∀ T ∈ ["str", "int", "bool", "tuple", "list", "dict"], kitB a T = some (a == T || (T == "int" && a == "bool")) := by
  decide +kernel
theorem kind_in (d : PyData) : kindD d ∈ ["NoneType", "bool", "int", "str", "list", "tuple", "dict"] := by
  cases d <;> simp [kindD]
theorem kit_D {K : PySem.W.Frag} (T : String) (d : PyData) (hT : T ∈ ["str", "int", "bool", "tuple", "list", "dict"] := by decide) : PySem.W.kitOne K (.type (kindD d)) (.type T) = some (isiD T d) := kit_ty (kit_all _ (kind_in d) T hT)
theorem isi_at {K : PySem.W.Frag} {H : Hp} {v : V} {d : PyData} {Q : VK} (T : String) (hT : T ∈ ["str", "int", "bool", "tuple", "list", "dict"]) (h : Dv H v d) (q : Q (.bl (isiD T d)) H) : rIsi K [v, .ty T] H Q :=
  ⟨v, .ty T, _, _, _, rfl, .ty T, ty_of h, kit_ty (kit_all _ (kind_in d) T hT), q⟩
end Lr

namespace Lr
open PySem L2 PySem.Spec PyProof.Rows
/-! ### for i, x in enumerate(a tuple) -/
theorem meets_enum1 {v : Value} {o : Obj} {Hh : Heap → Prop} (B : Begins v o Hh) :
    Meets (Builtin.«enumerate.__new__» ⟨[.type "enumerate", v], []⟩) (fun _ R s => Hh s.heap ∧
      R (.ok (.ret (.ref (s.heap.push o).objs.size)))
        { s with heap := (s.heap.push o).push { cls := .type "enumerate", data := .fields #[.none, .bool false, .ref s.heap.objs.size, rawInt 0, .none, .none] } }) :=
  .of_wp fun prog w A R s hh => by
    obtain ⟨hp, gs, dr, tk, os⟩ := s
    obtain ⟨h1, hR⟩ := hh
    have hsub := sub_enumerate
    have begin1 : ∀ {A2 : Around} {E : Value → Shared → Prop} {Q : Value → Shared → Prop}, Q (.ref hp.objs.size) ⟨hp.push o, gs, dr, tk, os⟩ → wpAny (model prog w) A2 (pyIter v) Q E ⟨hp, gs, dr, tk, os⟩ :=
      fun q => B.iter prog w _ _ ⟨hp, gs, dr, tk, os⟩ _ h1 q
    wp_walk using begin1
    refine wpAny_stack_any fun st => wpAny_pure ?_
    split
    · rename_i cc _ _ _ _ _
      cases (cc == Value.type "enumerate")
      all_goals
        wp_walk using begin1
        exact ⟨_, rfl, hR⟩
    · wp_walk using begin1
      exact ⟨_, rfl, hR⟩
section
variable {prog : Program} {w : World} {A : Around} {E : Value → Shared → Prop} {s : Shared}
theorem call_enum1 {v : Value} {o : Obj} {Hh : Heap → Prop} {Q : Value → Shared → Prop} (B : Begins v o Hh) (h1 : Hh s.heap)
    (k : ∀ h2, IsEnum h2 (s.heap.objs.size + 1) s.heap.objs.size 0 .none → h2.get? s.heap.objs.size = some o → (∀ b ob, s.heap.get? b = some ob → h2.get? b = some ob) → Q (.ref (s.heap.objs.size + 1)) { s with heap := h2 }) :
    wpAny (model prog w) A (call (.type "enumerate") [v]) Q E s := by
  refine callType_new F.called_enumerate (by decide) (F.typeCall_enumerate_1 _) (F.newCall_enumerate_1 _) (fun obj => F.args_object_init_2 obj _) F.entry_enumerate_new (meets_enum1 B) ⟨h1, ?_⟩
  have sz : (s.heap.push o).objs.size = s.heap.objs.size + 1 := Heap.size_push ..
  show _ ∧ _
  rw [sz]
  have en : IsEnum ((s.heap.push o).push { cls := .type "enumerate", data := .fields #[.none, .bool false, .ref s.heap.objs.size, rawInt 0, .none, .none] }) (s.heap.objs.size + 1) s.heap.objs.size 0 .none := by
    have q := Heap.get?_push_size (s.heap.push o) (o := { cls := .type "enumerate", data := .fields #[.none, .bool false, .ref s.heap.objs.size, rawInt 0, .none, .none] }) rfl
    rw [sz] at q
    exact q
  exact ⟨⟨_, en, rfl⟩, k _ en (Heap.get?_push_of_some _ (Heap.get?_push_size _ B.free)) fun b ob x => Heap.get?_push_of_some _ (Heap.get?_push_of_some _ x)⟩
end
def ItT (a : Addr) (xs : List V) : It :=
  ⟨fun i H => Tu H a xs ∧ i < xs.length, fun i H v G => ∃ T x, v = .ref T ∧ H T = none ∧ xs[i]? = some x ∧ G = upd H T (.tup [.int (i : Nat), x]), fun i H => Tu H a xs ∧ xs.length ≤ i⟩
theorem turn_enumT {P : Program} {w : World} {K : PySem.W.Frag} {elts : List Expr} {kk : Nat} {tpos : Pos} (a : Addr) (xs : List V) (e it : Addr) :
    Turn P w K (.Tuple elts kk tpos) (ItT a xs) [e, it] e (fun i h => (∃ old, IsEnum h e it ((i : Nat) : Int) old) ∧ h.IsTupleIter it a i ∧ e ≠ it ∧ i ≤ xs.length) where
  mem := by simp
  obj := by
    rintro i h ⟨⟨old, he⟩, ⟨o, ho, hc, hd⟩, _⟩ b hb
    rcases (show b = e ∨ b = it by simpa using hb) with q | q
    · subst q
      exact ⟨_, he, fun v q => nomatch q⟩
    · subst q
      exact ⟨o, ho, fun v q => by rw [hd] at q; cases q⟩
  keep := by
    rintro i h h2 ⟨⟨old, he⟩, ⟨o, ho, r⟩, hne⟩ k
    exact ⟨⟨old, k e (by simp) _ he⟩, ⟨o, k it (by simp) _ ho, r⟩, hne⟩
  item := by
    intro X hP hw hK hc i pins s σ H E I hf st hg
    subst hP hw hK
    obtain ⟨⟨old, he⟩, hit, hne, hle⟩ := st
    obtain ⟨hat, hlt⟩ := hg
    have eLt : e < s.heap.objs.size := Heap.lt_size he
    have iLt : it < s.heap.objs.size := by obtain ⟨_, q, _⟩ := hit; exact Heap.lt_size q
    obtain ⟨its, rv, ⟨o, ho, hcls, n, hdat⟩, _⟩ := I.tuple (Tu.sq hat)
    have nai : a ≠ it := by
      intro z
      have q := (hf it (by simp)).1
      obtain ⟨oo, qq, _⟩ := hat.some
      rw [← z, qq] at q
      cases q
    have hlen : its.length = xs.length := rv.length.symm
    have D := Draws.tuple (prog := X.prog) (w := X.w) (A := X.A.in1) (I.ok.hd hc) it a nai its.toArray
    have nea : e ≠ a := by
      intro z
      have q := (hf e (by simp)).1
      obtain ⟨oo, qq, _⟩ := hat.some
      rw [z, qq] at q
      cases q
    refine wpAny_pyNext_enum_itemD D he ⟨hit, o, ho, hcls, n, hdat⟩ (by simpa [hlen] using hlt) hne (by simp [hne, nea]) fun y h2 t2 hy out hit2 hT hsz hk => ?_
    obtain ⟨x, hx⟩ : ∃ x, xs[i]? = some x := ⟨xs[i], List.getElem?_eq_getElem hlt⟩
    obtain ⟨u, hu, ru⟩ := rv.get hx
    have hyu : y = u := by
      have h3 : its[i]? = some y := by simpa using hy
      rw [hu] at h3
      exact (Option.some.inj h3).symm
    subst hyu
    refine ⟨_, rfl, wpAny_letOwnedTupleGo_enum (s := { s with heap := h2, toks := t2 + 1 }) out fun h3 he3 sb => ?_⟩
    have hT3 : h3.get? s.heap.objs.size = some { cls := .type "tuple", data := .seq #[.int i t2, y] } := (sb.2 _ (Nat.ne_of_gt eLt)).trans hT
    have new : ObjOk X.prog X.w (upd H s.heap.objs.size (.tup [.int (i : Nat), x])) h3 s.heap.objs.size (.tup [.int (i : Nat), x]) :=
      ⟨(by show 2 ≤ sizeLine; decide), [.int i t2, y], .cons ⟨_, rfl⟩ (.cons ru .nil), ⟨_, hT3, rfl, _, rfl⟩⟩
    have kept : ∀ b ob, b ∉ [e, it] → s.heap.get? b = some ob → h3.get? b = some ob := fun b ob hb q =>
      (sb.2 b (fun y => hb (by simp [y]))).trans (hk b ob (fun y => hb (by simp [y])) (fun y => hb (by simp [y])) q)
    have I3 : Inv X pins σ (upd H s.heap.objs.size (.tup [.int (i : Nat), x])) { s with heap := h3, toks := t2 + 1 } := I.turnedNew (ch := [e, it]) kept hf (Nat.le_refl _) new
    refine ⟨.ref s.heap.objs.size, _, I3, rfl, ⟨_, x, rfl, I.hok.fresh (Nat.le_refl _), hx, rfl⟩, ⟨⟨y, ?_⟩, ?_, hne, hlt⟩, fun b hb => ?_⟩
    · have e1 : ((i + 1 : Nat) : Int) = (i : Int) + 1 := by omega
      rw [e1]
      exact he3
    · obtain ⟨⟨o2, ho2, r2⟩, _⟩ := hit2
      exact ⟨o2, (sb.2 it (Ne.symm hne)).trans ho2, r2⟩
    · have lt : b < s.heap.objs.size := by
        rcases (show b = e ∨ b = it by simpa using hb) with q | q <;> (rw [q]; assumption)
      rw [upd_ne (Nat.ne_of_lt lt)]
      exact (hf b hb).1
  done := by
    intro X hP hw hK hc i pins s σ H E I hf st hg
    subst hP hw hK
    obtain ⟨⟨old, he⟩, hit, hne, hle⟩ := st
    obtain ⟨hat, hge⟩ := hg
    have ei : i = xs.length := Nat.le_antisymm hle hge
    obtain ⟨its, rv, ⟨o, ho, hcls, n, hdat⟩, _⟩ := I.tuple (Tu.sq hat)
    have nai : a ≠ it := by
      intro z
      have q := (hf it (by simp)).1
      obtain ⟨oo, qq, _⟩ := hat.some
      rw [← z, qq] at q
      cases q
    have hlen : its.length = xs.length := rv.length.symm
    have D := Draws.tuple (prog := X.prog) (w := X.w) (A := X.A.in1) (I.ok.hd hc) it a nai its.toArray
    obtain ⟨f0, f1, f2, f3, f4, f5⟩ := hf it (by simp)
    have e2 : its.toArray.size = i := by simp [hlen, ei]
    exact wpAny_pyNext_enum_endD D he (by rw [e2]; exact ⟨hit, o, ho, hcls, n, hdat⟩) fun h2 eb => ⟨rfl, I.turned (t' := s.toks) (fun b o hb q => eb b o hb q) f0 f1 f3 f4 f5⟩
  self := by
    rintro A i s Q E ⟨⟨_, he⟩, _⟩ h
    exact wpAny_pyIter_enum he h
def iEnumT (ta : TA) : TI := fun σ H R => ta σ H fun vs G => ∃ a xs, vs = [.ref a] ∧ Tu G a xs ∧ R (ItT a xs) G
theorem pi_enumT {X : Cx} {e : Expr} {ta : TA} {p pos tpos : Pos} {elts : List Expr} {kk : Nat} (hg : Gl X "enumerate") (hm : X.mg "enumerate" = none) (ha : PA X [e] ta)
    (hs : starEach [e] X.env = [(false, eval e X.env)] := by rfl) : PI X (.Tuple elts kk tpos) (.Call (.Name "enumerate" p) [e] [] pos) (iEnumT ta) := by
  refine ⟨fun pins s σ H R I h => ?_⟩
  refine Call_ (ld_blt I hg hm boot_enumerate (PyProof.Rows.callWith_type1 (thn (ha.run pos pins s σ H _ I h) ?_) hs rfl))
  rintro us s1 ⟨vs, G, I1, r1, a, xs, rfl, hat, q⟩
  cases r1 with
  | cons r rr =>
    cases rr
    cases r
    obtain ⟨its, rv, ⟨o, ho, hcls, n, hdat⟩, _⟩ := I1.tuple (Tu.sq hat)
    refine call_enum1 (begins_tuple a its.toArray) ⟨o, ho, hcls, n, hdat⟩ fun h2 he hit hk => wpAny_pyIter_enum he ?_
    have I2 : Inv X pins σ G { s1 with heap := h2 } := I1.kept (t' := s1.toks) hk
    refine ⟨s1.heap.objs.size + 1, [s1.heap.objs.size + 1, s1.heap.objs.size], _, _, G, rfl, I2, turn_enumT a xs (s1.heap.objs.size + 1) s1.heap.objs.size, ⟨⟨.none, he⟩, ⟨_, hit, rfl, rfl⟩, Nat.succ_ne_self _, Nat.zero_le _⟩, fun b hb => ?_, q⟩
    have le : s1.heap.objs.size ≤ b := by
      rcases (show b = s1.heap.objs.size + 1 ∨ b = s1.heap.objs.size by simpa using hb) with y | y
      · rw [y]; exact Nat.le_succ _
      · rw [y]; exact Nat.le_refl _
    exact I1.fpOk le (I1.hok.fresh le)
/-- the loop: an invariant over the turn's number; the pair is new -/
theorem for_enumT {K : PySem.W.Frag} {a : Addr} {xs : List V} {i j : Nat} {tb : TS} {D : Ends} {σ : L2.St} {H : Hp} (Pv : Nat → L2.St → Hp → Prop) (h0 : Pv 0 σ H) (ht : ∀ n σ2 H2, Pv n σ2 H2 → Tu H2 a xs)
    (hs : ∀ n x σ2 H2 H3, xs[n]? = some x → Pv n σ2 H2 → Ex H2 H3 → tb { D with nx := Pv (n + 1), ct := Pv (n + 1), bk := D.nx } ((σ2.set i (some (.int (n : Int)))).set j (some x)) H3)
    (hd : ∀ σ2 H2, Pv xs.length σ2 H2 → D.nx σ2 H2) :
    ∃ W : Nat → Nat → L2.St → Hp → Prop, (∃ m, W 0 m σ H) ∧ ∀ n m σ2 H2, W n m σ2 H2 →
      ((ItT a xs).stop n H2 ∧ D.nx σ2 H2) ∨ ((ItT a xs).go n H2 ∧ ∃ N : L2.St → Hp → Prop, (∀ σ3 H3, N σ3 H3 → ∃ m2, m2 < m ∧ W (n + 1) m2 σ3 H3) ∧
        ∀ x H3, (ItT a xs).yld n H2 x H3 → gTup K 2 (gCons (gName i) (gCons (gName j) gNil)) x σ2 H3 fun σ4 H4 => tb { D with nx := N, ct := N, bk := D.nx } σ4 H4) := by
  refine ⟨fun n m σ2 H2 => m = xs.length - n ∧ n ≤ xs.length ∧ Pv n σ2 H2, ⟨_, rfl, Nat.zero_le _, h0⟩, ?_⟩
  rintro n m σ2 H2 ⟨rfl, hn, p⟩
  by_cases lt : n < xs.length
  · refine .inr ⟨⟨ht n σ2 H2 p, lt⟩, Pv (n + 1), fun σ3 H3 q => ⟨xs.length - (n + 1), by omega, rfl, lt, q⟩, ?_⟩
    rintro y H3 ⟨T, x, rfl, hT, hx, rfl⟩
    exact ⟨T, _, rfl, SqT.of upd_same, rfl, _, _, rfl, _, _, rfl, rfl, hs n x σ2 H2 _ hx p (Evl.Ex.new hT)⟩
  · have e : n = xs.length := by omega
    subst e
    exact .inl ⟨⟨ht _ σ2 H2 p, Nat.le_refl _⟩, hd σ2 H2 p⟩
/-! ### len(set(a tuple of ints)) -/
theorem perm_in : ∀ {ks ns : List Int}, ks.Nodup → (∀ k ∈ ks, k ∈ ns) → ns.length ≤ ks.length → ks.Perm ns
  | [], ns, _, _, hl => by
    have : ns = [] := List.eq_nil_of_length_eq_zero (by simpa using hl)
    subst this
    exact .nil
  | k :: r, ns, nd, sub, hl => by
    rw [List.nodup_cons] at nd
    have hk : k ∈ ns := sub k (by simp)
    have p := List.perm_cons_erase hk
    have hlen : ns.length = (ns.erase k).length + 1 := by
      have := p.length_eq
      simpa using this
    have ih := perm_in (ks := r) (ns := ns.erase k) nd.2 (fun x hx => by
      have hne : x ≠ k := fun z => nd.1 (z ▸ hx)
      exact (List.mem_erase_of_ne hne).mpr (sub x (by simp [hx]))) (by simp at hl; omega)
    exact (ih.cons k).trans p.symm
theorem card_nodup {ks ns : List Int} (nd : ks.Nodup) (h : ∀ k, k ∈ ns ↔ k ∈ ks) : ks.length = ns.length ↔ ns.Nodup := by
  constructor
  · intro e
    exact (perm_in nd (fun k hk => (h k).mpr hk) (by omega)).nodup_iff.mp nd
  · intro nd2
    have p := perm_in (ks := ks) (ns := ns) nd (fun k hk => (h k).mpr hk)
    by_cases hl : ns.length ≤ ks.length
    · exact (p hl).length_eq
    · exact ((perm_in (ks := ns) (ns := ks) nd2 (fun k hk => (h k).mp hk) (by omega)).length_eq).symm
def tLenSetT (K : PySem.W.Frag) (ta : TE) : TE := fun σ H Q => ta σ H fun x H1 => ∃ (l : Addr) (ns : List Int), x = .ref l ∧ SqT K H1 l (ns.map V.int) ∧ ns.length ≤ 4000 ∧ ∀ m : Nat, (m = ns.length ↔ ns.Nodup) → Q (.int m) H1
theorem pe_lenSetT {X : Cx} {K : PySem.W.Frag} {a : Expr} {ta : TE} {p p2 q pos : Pos} (hK : X.K = K) (hg : Gl X "len") (hm : X.mg "len" = none) (hg2 : Gl X "set") (hm2 : X.mg "set" = none) (ha : PE X a ta) (hc : X.calm = true := by rfl)
    (na : starEach [a] X.env = (false, eval a X.env) :: starEach [] X.env := by rfl) : PE X (.Call (.Name "len" p) [.Call (.Name "set" p2) [a] [] q] [] pos) (tLenSetT K ta) := by
  subst hK
  refine ⟨fun pins s σ H Q I h => Call_ (ld_blt I hg hm bt_len ?_)⟩
  refine PyProof.Rows.callWith_builtin1 (PyProof.Rows.args_cons ?_ rfl) rfl rfl
  refine Call_ (ld_blt I hg2 hm2 bt_set ?_)
  refine PyProof.Rows.callWith_type1 (PyProof.Rows.args_cons (thn (ha.run pins s σ H _ I h) ?_) na) na rfl
  rintro v s1 ⟨x, H1, I1, r1, l, ns, rfl, hq, hl, k⟩
  refine PyProof.Rows.args_nil ?_
  cases r1
  obtain ⟨its, rv, ⟨o, ho, hcls, n, hdat⟩, hz⟩ := I1.tuple hq
  refine call_set_tupI ns (I1.ok.hd hc) ⟨o, ho, hcls, n, hdat⟩ (by simpa using rv.ints) (by unfold scanBound; omega) ?_
  rintro h2 tk c ⟨o2, es, ep, t, ho2, hex, hd2, _, nd, mem, _, hf, hn, _⟩ hcn hk
  refine PyProof.Rows.args_nil ?_
  have I2 : Inv X pins σ H1 { s1 with heap := h2, toks := tk } := I1.kept hk
  have e1 : (es.toList.map keyOf).length = c := by rw [List.length_map, Array.length_toList]; exact hn
  have card : c = ns.length ↔ ns.Nodup := by
    rw [← e1]
    exact card_nodup nd fun k => by rw [← mem k]; simp
  refine call_len_set ho2 hex hd2 hf (by rw [hn]; omega) ⟨.int c, H1, I2.tok _, ⟨_, by rw [hn]⟩, k c card⟩
/-! ### sorted(a tuple of ints) -/
def rSortT (K : PySem.W.Frag) : List V → Hp → VK → Prop := fun vs H Q => ∃ (a : Addr) (ns : List Int), vs = [.ref a] ∧ SqT K H a (ns.map V.int) ∧ ns.length < 64 ∧ ∀ (ys : List Int) (p : Addr), ys.Perm ns → ys.Pairwise (· ≤ ·) → H p = none → Q (.ref p) (upd H p (.lst (ys.map V.int)))
theorem cr_sortT {X : Cx} {K : PySem.W.Frag} (hK : X.K = K) : CallR X (.builtin "sorted") (rSortT K) := by
  subst hK
  intro pins s σ H xs us Q I r h
  obtain ⟨a, ns, rfl, hs, h64, k⟩ := h
  obtain ⟨u, rfl, rx⟩ := vals1 r
  cases rx
  obtain ⟨its, rv, ⟨o, ho, hcls, n, hdat⟩, hz⟩ := I.tuple hs
  have hi : IntsAre its ns := rv.ints
  have hil : its.length = ns.length := hi.length
  refine Calls.call_function_entry PyProof.Rows.kind_sorted PyProof.Rows.plain_sorted PyProof.Rows.entry_sorted (PyProof.Rows.args_sorted1 _) ?_
  unfold Builtin.«sorted»
  refine wpAny_bind (m := checkCount "sorted" 1 1 _) (wpAny_pure ?_)
  have szi : its.toArray.size ≤ sizeLine := by rw [List.size_toArray, hil]; exact Evl.sz_of (by omega)
  refine wpAny_bind (wpAny_collect_seq (A := X.A.in1) a (.inr rfl) ho hcls hdat (fun h2 hk => ?_) szi)
  have I1 : Inv X pins σ H { s with heap := h2 } := I.kept (t' := s.toks) hk
  refine wpAny_bind (wpAny_newList ?_ (by rw [List.toList_toArray, hil]; exact Evl.sz_of (by omega)))
  rw [List.toList_toArray]
  have hoL : (h2.push (seqObj "list" its.toArray 0)).get? h2.objs.size = some (seqObj "list" its.toArray 0) := Heap.get?_push_size _ rfl
  show wpAny _ _ _ _ _ { s with heap := h2.push (seqObj "list" its.toArray 0) }
  refine wpAny_bind (wpAny_holding (wpAny_call_entry PyProof.Rows.slot_list_sort ⟨_, hoL, rfl⟩ PyProof.Rows.entry_list_sort
    (PyProof.Rows.list_sort_tree (s := { s with heap := h2.push (seqObj "list" its.toArray 0) }) hoL hi (by rw [hil]; exact h64) fun out ys g1 g2 g3 => ⟨_, rfl, ?_⟩) (PyProof.Rows.args_list_sort _)))
  obtain ⟨e2, he2⟩ := PyProof.Rows.sortedHeap_at (vs := its) (out := out) hoL
  have hlen : (ys.map V.int).length ≤ sizeLine := by
    rw [List.length_map, g2.length_eq]
    exact Evl.sz_of (by omega)
  refine wpAny_pure ⟨_, rfl, .ref h2.objs.size, upd H h2.objs.size (.lst (ys.map V.int)), I1.laid (t' := s.toks) (fun b u e => ?_) (Nat.le_refl _)
    (show ObjOk X.prog X.w _ _ _ (.lst (ys.map V.int)) from ⟨hlen, out.toList, e2, vals_of_ints g1, by rw [Array.toArray_toList]; exact he2⟩), rfl, k ys _ g2 g3 (I1.hok.fresh (Nat.le_refl _))⟩
  have lt : b < h2.objs.size := Heap.lt_size e
  rw [PyProof.Rows.sortedHeap_old (Nat.ne_of_lt lt) (by rw [size_push']; exact Nat.lt_succ_of_lt lt)]
  exact Heap.get?_push_of_some _ e
/-! ### all(a list of truths) -/
def rAllL (K : PySem.W.Frag) : List V → Hp → VK → Prop := fun vs H Q => ∃ (a : Addr) (bs : List Bool), vs = [V.ref a] ∧ SqL K H a (bs.map V.bl) ∧ Q (.bl (bs.all id)) H
theorem k_all {X : Cx} {K : PySem.W.Frag} (hK : X.K = K) (hc : X.calm = true) : CallR X (.builtin "all") (rAllL K) := by
  subst hK
  exact cr_all hc
/-! ### a tuple backwards: some tuple of its items -/
theorem vals_pick {xs : List V} {its : List Value} (r : Vals xs its) (f : Nat → Nat) : ∀ l : List Nat, Vals (l.filterMap fun k => xs[f k]?) (l.filterMap fun k => its[f k]?)
  | [] => .nil
  | k :: l => by
    have rest := vals_pick r f l
    cases e : xs[f k]? with
    | none =>
      have e2 := r.none_of e
      simp only [List.filterMap_cons, e, e2]
      exact rest
    | some x =>
      obtain ⟨u, e2, ru⟩ := r.get e
      simp only [List.filterMap_cons, e, e2]
      exact .cons ru rest
section
variable {prog : Program} {w : World} {A : Around} {E : Value → Shared → Prop} {s : Shared}
theorem back_applied {sl : Addr} {vl vu vs : Value} {n : Nat} {Q : Int × Int × Nat → Shared → Prop} (hs : s.heap.IsSliceOf sl vl vu vs) (pl : IsPart vl none) (pu : IsPart vu none) (ps : IsPart vs (some (-1)))
    (h : ∀ lo k, k ≤ n → Q (lo, -1, k) s) : wpAny (model prog w) A (Builtin.Slice.sliceApplied (.ref sl) (pure (n : Int))) Q E s := by
  obtain ⟨os, hos, hcs, hds⟩ := id hs
  unfold Builtin.Slice.sliceApplied Builtin.Slice.sliceFields
  refine wpAny_bind (wpAny_bind (wpAny_field hos hds (x := vl) rfl (wpAny_bind (wpAny_field hos hds (x := vu) rfl (wpAny_bind (wpAny_field hos hds (x := vs) rfl (wpAny_pure ?_)))))))
  refine wpAny_bind (HT.slicePart_ ps ?_)
  show wpAny _ _ (if ((-1 : Int) == 0) = true then _ else _) _ _ s
  rw [if_neg (by decide)]
  refine wpAny_bind (HT.slicePart_ pl (wpAny_bind (HT.slicePart_ pu (wpAny_bind (wpAny_pure ?_)))))
  show wpAny _ _ (match Builtin.Slice.sliceAdjust none none (-1) (n : Int) with | (lo, hi) => pure (lo, (-1 : Int), Builtin.Slice.slicePlaces lo hi (-1))) _ _ s
  have e1 : Builtin.Slice.sliceAdjust none none (-1) (n : Int) = ((n : Int) - 1, -1) := rfl
  rw [e1]
  refine wpAny_pure (h _ _ ?_)
  unfold Builtin.Slice.slicePlaces
  rw [if_neg (by decide)]
  split
  · have e2 : ((n : Int) - 1 - -1 - 1) / (- -1) = (n : Int) - 1 := by
      rw [show (- -1 : Int) = 1 by decide, Int.ediv_one]
      omega
    rw [e2]
    omega
  · simp
theorem getItem_back {t sl : Addr} {items : Array Value} {vl vu vs : Value} {Q : Value → Shared → Prop} (ht : IsTup s.heap t items) (hs : s.heap.IsSliceOf sl vl vu vs) (pl : IsPart vl none) (pu : IsPart vu none) (ps : IsPart vs (some (-1))) (hsz : items.size ≤ sizeLine)
    (h : ∀ (lo : Int) (k : Nat), k ≤ items.size → Q (.ref s.heap.objs.size) { s with heap := s.heap.push { cls := .type "tuple", data := .seq ((List.range k).filterMap fun (j : Nat) => items[(lo + (j : Int) * -1).toNat]?).toArray } }) :
    wpAny (model prog w) A (getItem (.ref t) (.ref sl)) Q E s := by
  obtain ⟨os, hos, hcs, hds⟩ := id hs
  have hTs : s.TypeIs (.ref sl) "slice" := ⟨os, hos, hcs⟩
  unfold getItem
  try with_reducible refine wpAny_holding ?_
  first | refine wpAny_bind (wpAny_pure ?_) | skip
  refine wpAny_bind (wpAny_sequenceKey ht.typeIs (by decide) ?_)
  refine wpAny_bind (wpAny_callSpecial?_slot (name := Str.ofString "__getitem__") ht.typeIs PyProof.Rows.slot_tuple_getitem
    (wpAny_call_entry PyProof.Rows.slot_tuple_getitem ht.typeIs entry_tuple_getitem ?_ (args_tuple_getitem _ _)))
  show wpAny _ _ (Builtin.Tuple.tupleItemsOf (.ref t) >>= _) _ _ s
  refine wpAny_bind (tupleItemsOf_ ht (wpAny_bind (wpAny_typeOf hTs ?_)))
  rw [if_pos (by decide)]
  refine wpAny_bind (back_applied hs pl pu ps fun lo k hk => ?_)
  have ok : sizeOk (.seq ((List.range k).filterMap fun (j : Nat) => items[(lo + (j : Int) * -1).toNat]?).toArray) := by
    show ((List.range k).filterMap fun (j : Nat) => items[(lo + (j : Int) * -1).toNat]?).toArray.size ≤ sizeLine
    rw [List.size_toArray]
    have := List.length_filterMap_le (fun (j : Nat) => items[(lo + (j : Int) * -1).toNat]?) (List.range k)
    rw [List.length_range] at this
    omega
  have no : ¬ ((lo == 0 && (-1 : Int) == 1 && k == items.size) = true) := by simp
  show wpAny _ _ (if (lo == 0 && (-1 : Int) == 1 && k == items.size) = true then _ else _) _ _ s
  rw [if_neg no]
  have q := h lo k hk
  first
    | exact wpAny_bind (m := Builtin.Tuple.tupleExact _) (wpAny_newObj_type (wpAny_pure ⟨_, rfl, wpAny_pure q⟩) ok)
    | exact wpAny_bind (m := Builtin.Tuple.tupleExact _) (wpAny_newObj_type (wpAny_bind (wpAny_pure (wpAny_pure ⟨_, rfl, wpAny_pure q⟩))) ok)
    | exact wpAny_bind (wpAny_bind (m := Builtin.Tuple.tupleExact _) (wpAny_newObj_type (wpAny_pure (wpAny_pure ⟨_, rfl, wpAny_pure q⟩)) ok))
    | exact wpAny_bind (wpAny_bind (m := Builtin.Tuple.tupleExact _) (wpAny_newObj_type (wpAny_pure ⟨_, rfl, wpAny_pure q⟩) ok))
end
def tRevT (te : TE) : TE := fun σ H Q => te σ H fun x H1 => ∃ (a : Addr) (xs : List V), x = .ref a ∧ Tu H1 a xs ∧ ∀ (f : Nat → Nat) (k : Nat) p, k ≤ xs.length → H1 p = none → Q (.ref p) (upd H1 p (.tup ((List.range k).filterMap fun j => xs[f j]?)))
theorem pe_revT {X : Cx} {e : Expr} {te : TE} {k : Nat} {p1 p2 p3 pos : Pos} (he : PE X e te) : PE X (.Subscript e (.Slice none none (some (.UnaryOp .USub (.Constant (.int 1) k p1) p2)) p3) pos) (tRevT te) := by
  refine ⟨fun pins s σ H Q I h => Subscript_ (thn (he.run pins s σ H _ I h) ?_)⟩
  rintro v s1 ⟨x, H1, I1, r1, a, xs, rfl, hx, q⟩
  cases r1
  have step : PO X (some (.UnaryOp .USub (.Constant (.int 1) k p1) p2)) (tPart (tUn (rU fun i => .int (-i)) (tC (.int 1)))) := po_some (pe_un un_neg pe_int)
  refine wpAny_Slice (thn (po_none.run pins s1 σ H1 (fun o G => o = none ∧ G = H1) I1 ⟨rfl, rfl⟩) ?_)
  rintro vl s2 ⟨l, H2, I2, pl, rfl, rfl⟩
  refine thn (po_none.run pins s2 σ H2 (fun o G => o = none ∧ G = H2) I2 ⟨rfl, rfl⟩) ?_
  rintro vu s3 ⟨u, H3, I3, pu, rfl, rfl⟩
  refine thn (step.run pins s3 σ H3 (fun o G => o = some (-1) ∧ G = H3) I3 ⟨1, rfl, -1, rfl, rfl, rfl⟩) ?_
  rintro vs s4 ⟨o, H4, I4, ps, rfl, rfl⟩
  have I5 : Inv X pins σ H4 { s4 with heap := s4.heap.push { cls := .type "slice", data := .fields #[vl, vu, vs] } } := I4.kept (t' := s4.toks) fun b ob q => Heap.get?_push_of_some _ q
  obtain ⟨its, rv, ht, hz⟩ := I5.tuple (Tu.sq hx)
  have hlen : its.length = xs.length := rv.length.symm
  refine tail_any (ops := [.ref a, .ref s4.heap.objs.size]) ht.typeIs (PyProof.Rows.slot_tuple_getitem.lookup) ?_ (by with_unfolding_all rfl)
  refine getItem_back ht (Heap.IsSliceOf.new _ vl vu vs) pl pu ps (by rw [List.size_toArray, hlen]; exact hz) fun lo n hn => ?_
  have hn2 : n ≤ xs.length := by rw [List.size_toArray, hlen] at hn; exact hn
  have same : ((List.range n).filterMap fun (j : Nat) => its.toArray[(lo + (j : Int) * -1).toNat]?) = (List.range n).filterMap fun (j : Nat) => its[(lo + (j : Int) * -1).toNat]? := by
    congr 1
    funext j
    simp
  rw [same]
  have rv2 := vals_pick rv (fun j => (lo + (j : Int) * -1).toNat) (List.range n)
  have l2 : ((List.range n).filterMap fun (j : Nat) => xs[(lo + (j : Int) * -1).toNat]?).length ≤ sizeLine := by
    have := List.length_filterMap_le (fun (j : Nat) => xs[(lo + (j : Int) * -1).toNat]?) (List.range n)
    rw [List.length_range] at this
    omega
  exact ⟨.ref _, _, I5.laid (t' := s4.toks) (o := .tup ((List.range n).filterMap fun (j : Nat) => xs[(lo + (j : Int) * -1).toNat]?)) (fun b ob q => Heap.get?_push_of_some _ q) (Nat.le_refl _) ⟨l2, _, rv2, IsTup.new _ _⟩, rfl, q _ n _ hn2 (I5.hok.fresh (Nat.le_refl _))⟩
end Lr

namespace Lr
open PySem L2 PySem.SeqAt
/-! ### compared with [] or (), whatever the items are -/
def rNeNil (K : PySem.W.Frag) : R2 := fun x y H Q => ∃ a b xs, x = .ref a ∧ y = .ref b ∧ SqL K H a xs ∧ SqL K H b [] ∧ Q (.bl (decide (xs ≠ []))) H
def rEqNilT (K : PySem.W.Frag) : R2 := fun x y H Q => ∃ a b xs, x = .ref a ∧ y = .ref b ∧ SqT K H a xs ∧ SqT K H b [] ∧ Q (.bl (decide (xs = []))) H
theorem ko_neNil {X : Cx} {K : PySem.W.Frag} (h : X.K = K) (hu : X.A.units + 64 < cLine) : OpR X (compareOp .NotEq) (rNeNil K) := by
  subst h
  intro pins s σ H x y v u Q I rx ry h
  obtain ⟨a, b, xs, rfl, rfl, h1, h2, q⟩ := h
  cases rx
  cases ry
  obtain ⟨its, rv, ⟨o, n, ho, hc, _, hd⟩, _⟩ := I.list h1
  obtain ⟨its2, rv2, ⟨o2, n2, ho2, hc2, _, hd2⟩, _⟩ := I.list h2
  cases rv2
  have i1 : s.heap.IsList a its.toArray := ⟨o, ho, hc, n, hd⟩
  have i2 : s.heap.IsList b #[] := ⟨o2, ho2, hc2, n2, hd2⟩
  cases rv with
  | nil =>
    exact RcNeAt.lists (e := fun _ => true) i1 i2 rfl (by omega) (fun j h1 _ => absurd h1 (Nat.not_lt_zero j)) X.prog X.w _ _ ⟨.bl _, H, I, rfl, q⟩
  | cons r rv =>
    exact RcNeAt.lists_lengths i1 i2 (by simp) (by omega) X.prog X.w _ _ ⟨.bl _, H, I, rfl, q⟩
theorem ko_eqNilT {X : Cx} {K : PySem.W.Frag} (h : X.K = K) (hu : X.A.units + 64 < cLine) : OpR X (compareOp .Eq) (rEqNilT K) := by
  subst h
  intro pins s σ H x y v u Q I rx ry h
  obtain ⟨a, b, xs, rfl, rfl, h1, h2, q⟩ := h
  cases rx
  cases ry
  obtain ⟨its, rv, ⟨o, ho, hc, n, hd⟩, _⟩ := I.tuple h1
  obtain ⟨its2, rv2, ⟨o2, ho2, hc2, n2, hd2⟩, _⟩ := I.tuple h2
  cases rv2
  have i1 : s.heap.IsTuple a its.toArray := ⟨o, ho, hc, n, hd⟩
  have i2 : s.heap.IsTuple b #[] := ⟨o2, ho2, hc2, n2, hd2⟩
  have G := RcAt.tuples (A := X.A) (e := fun _ => true) i1 i2 (by omega) (fun j _ h2 => absurd h2 (Nat.not_lt_zero j))
  cases rv with
  | nil => exact G X.prog X.w _ _ ⟨.bl _, H, I, rfl, q⟩
  | cons r rv => exact G X.prog X.w _ _ ⟨.bl _, H, I, by simp; rfl, q⟩
end Lr

namespace Lr
open PySem L2 PySem.Spec PyProof.Rows
/-! ### repr of any data: where the table of modules stands in the base, nothing that is told of stands there -/
def HasSys (base : Heap) : Prop := ∃ o, base.get? sysModules = some o
section
variable {X : Cx} {pins : List (Addr × Obj)} {σ : L2.St} {H : Hp} {s : Shared}
theorem sys_ne (hs : HasSys X.base) (I : Inv X pins σ H s) {a : Addr} {o : HO} (h : H a = some o) : sysModules ≠ a := by
  rintro rfl
  obtain ⟨o', e⟩ := hs
  have z := (I.bs _ _ e).2
  rw [h] at z
  cases z
mutual
theorem Dv.readsS (hs : HasSys X.base) (I : Inv X pins σ H s) : ∀ {v : V} {d : PyData} {u : Value}, Dv H v d → RelV v u → ∃ as, Reads s.heap u d as ∧ sysModules ∉ as
  | _, _, _, .non, r => by cases r; exact ⟨[], .none, List.not_mem_nil⟩
  | _, _, _, .bl b, r => by cases r; exact ⟨[], .bool b, List.not_mem_nil⟩
  | _, _, _, .int i, r => by obtain ⟨t, rfl⟩ := r; exact ⟨[], .int i t, List.not_mem_nil⟩
  | _, _, _, .str x, r => by obtain ⟨t, rfl⟩ := r; exact ⟨[], .str x t, List.not_mem_nil⟩
  | _, _, _, .lst h t, r => by
    cases r
    have ne := sys_ne hs I h
    obtain ⟨_, its, n, rv, e⟩ := I.hok _ _ h
    obtain ⟨as, q, z⟩ := DvAll.readsS hs I t rv
    refine ⟨_ :: as, .list e rfl rfl (by simpa using q), fun hm => ?_⟩
    rcases List.mem_cons.mp hm with e | hm
    · exact ne e
    · exact z hm
  | _, _, _, .tup h t, r => by
    cases r
    obtain ⟨_, its, rv, o, e, hc, n, hd⟩ := I.hok _ _ h
    obtain ⟨as, q, z⟩ := DvAll.readsS hs I t rv
    exact ⟨as, .tuple e hc hd (by simpa using q), z⟩
  | _, _, _, .tuf h t, r => by
    cases r
    obtain ⟨_, _, its, rv, o, e, hc, n, hd⟩ := I.hok _ _ h
    obtain ⟨as, q, z⟩ := DvAll.readsS hs I t rv
    exact ⟨as, .tuple e hc hd (by simpa using q), z⟩
  | _, _, _, .dic h t, r => by
    cases r
    have ne := sys_ne hs I h
    obtain ⟨_, ns, vs, kv, o, es, ep, e, hx, hd, _, hp, _⟩ := I.hok _ _ h
    obtain ⟨bs, q, z⟩ := DvKv.readsS hs I t kv hp
    refine ⟨_ :: [] ++ bs, .dict e hx.1 hd (keys_read hp kv t) q, fun hm => ?_⟩
    rcases List.mem_cons.mp (by simpa using hm) with e | hm
    · exact ne e
    · exact z hm
theorem DvAll.readsS (hs : HasSys X.base) (I : Inv X pins σ H s) : ∀ {vs : List V} {ds : List PyData} {us : List Value}, DvAll H vs ds → Vals vs us → ∃ as, ReadsAll s.heap us ds as ∧ sysModules ∉ as
  | _, _, _, .nil, .nil => ⟨[], .nil, List.not_mem_nil⟩
  | _, _, _, .cons a b, .cons r q => by
    obtain ⟨as, h1, z1⟩ := Dv.readsS hs I a r
    obtain ⟨bs, h2, z2⟩ := DvAll.readsS hs I b q
    refine ⟨as ++ bs, .cons h1 h2, fun hm => ?_⟩
    rcases List.mem_append.mp hm with m | m
    · exact z1 m
    · exact z2 m
theorem DvKv.readsS (hs : HasSys X.base) (I : Inv X pins σ H s) : ∀ {kvs : List (Key × V)} {ds : List (PyData × PyData)} {vs : List (Key × Value)} {es : List DictEntry}, DvKv H kvs ds → KV kvs vs → Pairs (mixKind X.prog X.w) es vs →
    ∃ bs, ReadsAll s.heap (es.map (·.val)) (ds.map (·.2)) bs ∧ sysModules ∉ bs
  | _, _, _, _, .nil, .nil, .nil => ⟨[], .nil, List.not_mem_nil⟩
  | _, _, _, _, .cons a b, .cons r q, .cons h1 h2 t => by
    obtain ⟨as, g1, z1⟩ := Dv.readsS hs I a r.2
    obtain ⟨bs, g2, z2⟩ := DvKv.readsS hs I b q t
    refine ⟨as ++ bs, .cons (by show Reads s.heap (DictEntry.val _) _ as; rw [h2]; exact g1) g2, fun hm => ?_⟩
    rcases List.mem_append.mp hm with m | m
    · exact z1 m
    · exact z2 m
end
end
def rReprS : List V → Hp → VK → Prop := fun xs H Q => ∃ v d, xs = [v] ∧ Dv H v d ∧ Fit d ∧ Q (.str d.shown) H
theorem call_reprS {X : Cx} (hg : X.A.guards = some []) (hu : X.A.units + 64 < cLine) (hs : HasSys X.base) : CallR X (.builtin "repr") rReprS := by
  intro pins s σ H xs us Q I r h
  obtain ⟨v, d, rfl, hd, f, q⟩ := h
  obtain ⟨u, rfl, rv⟩ := vals1 r
  have hdep := f.dep
  obtain ⟨as, rd, hs⟩ := Dv.readsS hs I hd rv
  have fin : ∀ (h' : Heap) (tk : Nat) (t : Tok), (∀ b o, s.heap.get? b = some o → h'.get? b = some o) → EP X pins σ Q (.str d.shown t) { s with heap := h', toks := tk } :=
    fun h' tk t k => ⟨.str d.shown, H, I.kept k, ⟨_, rfl⟩, q⟩
  cases hd with
  | non =>
    cases rv
    exact PySem.P.repr_of_none (fin s.heap _ _ fun _ _ e => e)
  | bl b =>
    cases rv
    exact PySem.P.repr_of_bool (fin s.heap _ _ fun _ _ e => e)
  | int i =>
    obtain ⟨t, rfl⟩ := rv
    exact PySem.P.repr_of_int (by simpa [PyData.showable] using f.sh) (fin s.heap _ _ fun _ _ e => e)
  | str x =>
    obtain ⟨t, rfl⟩ := rv
    exact PySem.P.repr_of_str (fin s.heap _ _ fun _ _ e => e) (by simpa [PyData.shown] using f.len)
  | lst h t =>
    cases rv
    exact repr_of_reads' rd f.sh (fun _ => hs) hg (by omega) (fun _ _ e => e) (fun h' u tk k => fin h' tk u k) f.len
  | tup h t =>
    cases rv
    exact repr_of_reads' rd f.sh (fun _ => hs) hg (by omega) (fun _ _ e => e) (fun h' u tk k => fin h' tk u k) f.len
  | tuf h t =>
    cases rv
    exact repr_of_reads' rd f.sh (fun _ => hs) hg (by omega) (fun _ _ e => e) (fun h' u tk k => fin h' tk u k) f.len
  | dic h t =>
    cases rv
    exact repr_of_reads' rd f.sh (fun _ => hs) hg (by omega) (fun _ _ e => e) (fun h' u tk k => fin h' tk u k) f.len
/-! ### the law's end, with the table of modules -/
theorem lawS {P : Program} {w : World} {K : PySem.W.Frag} {mg mb mm : Str → Option Value} {k : Nat} {fa a : Addr} {fd : FuncData} {x : Str} {sp : Sp}
    {t0 : Shared} {us : List Value} {ns : List Int} (inK : K.In t0.heap) (gl : t0.heap.Ns mainGlobals mg) (bl : t0.heap.Ns builtinsNs mb) (sy : t0.heap.Ns sysModules mm)
    (blt : ∀ y : Str, y ≠ "__name__" → mb y = bootBuiltins y) (lim : t0.heap.NoLimit) (nog : t0.gens = #[])
    (at' : t0.heap.get? a = some { cls := .type "list", data := .seq us.toArray }) (hints : IntsAre us ns) (short : ns.length ≤ sizeLine)
    (room : Room k callerA) (F : ∀ base : Heap, K.In base → base.Ns mainGlobals mg → HasSys base → FnG P w K mg base k fa fd [x] sp)
    (bind : ∀ (s : Shared) (u : Value), BindsTo s fd ⟨[u], []⟩ [(x, u)])
    (want : ∀ H : Hp, SqL K H a (ns.map V.int) → sp [.ref a] H (fun v _ => v = .bl true) fun _ _ _ => False) :
    codeAny (model P w) callerA (.call (.ref fa) ⟨[.ref a], []⟩)
      (fun r s2 => r = .ok (.ret (.bool true)) ∧ OldK t0.heap s2.heap ∧ s2.os = t0.os ∧ AllBare s2.gens) t0 := by
  have vals : Vals (ns.map V.int) us := vals_ints hints
  have same := hints.length
  have main : ∀ H : Hp, (∀ b u, H b = some u → b = a ∧ K.lookup a = none ∧ ∃ o ys, u = .frz o (.lst ys)) → SqL K H a (ns.map V.int) → HOk P w H t0.heap →
      codeAny (model P w) callerA (.call (.ref fa) ⟨[.ref a], []⟩)
        (fun r s2 => r = .ok (.ret (.bool true)) ∧ OldK t0.heap s2.heap ∧ s2.os = t0.os ∧ AllBare s2.gens) t0 := by
    intro H only sq ok
    have noDict : ∀ {b : Addr} {o : Obj} {es : Array DictEntry} {ep : Nat}, t0.heap.get? b = some o → o.data = .dict es ep → H b = none := by
      intro b o es ep e dd
      cases q : H b with
      | none => rfl
      | some u =>
        obtain ⟨rfl, _⟩ := only b u q
        rw [at'] at e
        cases e
        cases dd
    have ns' : ∀ {b : Addr} {m : Str → Option Value}, t0.heap.Ns b m → (hidT t0.heap H).Ns b m := by
      rintro b m ⟨o, es, ep, e, dd, r⟩
      exact ⟨o, es, ep, hidT_get e (noDict e dd), dd, r⟩
    have inB : K.In (hidT t0.heap H) := by
      intro b o e
      refine hidT_get (inK b o e) ?_
      cases q : H b with
      | none => rfl
      | some u =>
        obtain ⟨rfl, z, _⟩ := only b u q
        rw [z] at e
        cases e
    obtain ⟨mc, l1, l2⟩ := lim
    have md : Mod K mg (hidT t0.heap H) := ⟨inB, ns' gl, ⟨mb, ns' bl, blt⟩, mc, ns' l1, l2⟩
    have hsy : HasSys (hidT t0.heap H) := by
      obtain ⟨o, _, _, e, _⟩ := ns' sy
      exact ⟨o, e⟩
    have env : Env0 P w K mg (hidT t0.heap H) callerA [] t0 H :=
      ⟨rfl, md, fun b o e => of_hidT e, Nat.le_of_eq (hidT_size _ _), trivial, fun b hb => absurd hb List.not_mem_nil, ok, AllBare.of_eq nog⟩
    refine codeAny_mono ((F _ inB (ns' gl) hsy).go callerA [] t0 H ⟨[.ref a], []⟩ [.ref a] [.ref a] _ _ room rfl env (bind t0 (.ref a)) (.cons rfl .nil) (want H sq)) ?_
    intro r s2 out
    cases r with
    | error u => exact False.elim out
    | ok fl =>
      cases fl with
      | next => exact False.elim out
      | brk => exact False.elim out
      | cont => exact False.elim out
      | ret u =>
        obtain ⟨v, H2, os, bare, un, ok2, rv, q⟩ := out
        obtain rfl : v = .bl true := q
        obtain rfl : u = Value.bool true := rv
        refine ⟨rfl, OldK.of_keep ?_, os, bare⟩
        intro b o e
        cases z : H b with
        | none => exact un.keep b o e z (by intro y; cases y) (by simp)
        | some u =>
          obtain ⟨_, _, ob, ys, rfl⟩ := only b u z
          obtain ⟨e1, _⟩ := ok b _ z
          obtain ⟨e2, _⟩ := ok2 b _ (un.frzs b ob _ z)
          rw [e] at e1
          cases e1
          exact e2
  cases lk : K.lookup a with
  | some o =>
    have e := inK a o lk
    rw [at'] at e
    cases e
    refine main (fun _ => none) (fun b u z => by cases z) (.inr ⟨_, us.toArray, _, lk, rfl, rfl, rfl, ?_, by simpa using vals⟩) (fun b u z => by cases z)
    rw [List.size_toArray, same]
    exact short
  | none =>
    refine main (fun b => if b = a then some (.frz { cls := .type "list", data := .seq us.toArray } (.lst (ns.map V.int))) else none) ?_ (.inl (.inr ⟨_, if_pos rfl⟩)) ?_
    · intro b u z
      by_cases hb : b = a
      · have z2 := (if_pos hb).symm.trans z
        cases z2
        exact ⟨hb, lk, _, _, rfl⟩
      · have z2 := (if_neg hb).symm.trans z
        cases z2
    · intro b u z
      by_cases hb : b = a
      · have z2 := (if_pos hb).symm.trans z
        subst hb
        cases z2
        exact ⟨at', by rw [List.length_map]; exact short, us, _, vals, at'⟩
      · have z2 := (if_neg hb).symm.trans z
        cases z2
theorem walkS {l : PySem.W.OpenLaw} {n k : Nat} {q : Program} {loose : List Str} {XP : (Str → Option Value) → Heap → Prop} {YP : World → Heap → Prop} {d : DefRec}
    {K : Params → PySem.W.Frag} {sp : World → Sp} {x : Str} (hn : l.most = some n) (hn2 : n ≤ sizeLine) (hdf : d.params.defaults = []) (hr : Room k callerA) (hi : importsNone q = true)
    (hY : ∀ (w : World) (h : Heap), YP w h → (K w.params).In h)
    (F : ∀ (w : World) (mg : Str → Option Value) (fa : Addr) (h : Heap), (K w.params).In h → h.Ns mainGlobals mg → mg d.name = some (.ref fa) →
      ∃ fd : FuncData, (∀ (s : Shared) (u : Value), BindsTo s fd ⟨[u], []⟩ [(x, u)]) ∧
        ∀ base : Heap, (K w.params).In base → base.Ns mainGlobals mg → HasSys base → FnG l.prog w (K w.params) mg base k fa fd [x] (sp w))
    (want : ∀ (w : World) (H : Hp) (a : Addr) (ns : List Int), ns.length ≤ n → SqL (K w.params) H a (ns.map V.int) → sp w [.ref a] H (fun v _ => v = .bl true) fun _ _ _ => False) :
    PySem.W.WalkO q loose XP YP l.row.toRowW d [] (fun f vs => PySem.call f vs) := by
  refine Att.attach_callB hn hdf ?_
  intro w s0 s1 mg mb fa o pm cd doc a vs ns G Y ho hd hcd hmg hobj hints hlen _ hg
  obtain ⟨fd, hb, hF⟩ := F w mg fa _ (hY w _ Y) G.T.g hmg
  obtain ⟨mm, sy, _⟩ := (G.T.seer hi).mods
  exact lawS (hY w _ Y) G.T.g G.T.b sy G.T.builtins G.T.nolimit hg hobj hints (Nat.le_trans hlen hn2) hr hF hb fun H hS => want w H a ns hlen hS
end Lr

namespace Lr
open PySem L2 PySem.Spec PyProof.Rows
theorem flat_ints (ys : List Int) : (ys.map V.int).all flatV = true := by
  rw [List.all_map]
  exact List.all_eq_true.mpr fun _ _ => rfl
theorem nd_inj : ∀ {l : List Int}, l.Nodup → ∀ {i j : Nat} (hi : i < l.length) (hj : j < l.length), l[i] = l[j] → i = j
  | x :: r, nd, 0, 0, _, _, _ => rfl
  | x :: r, nd, 0, j + 1, _, hj, h => by
    have := List.nodup_cons.mp nd
    exact absurd (by simp only [List.getElem_cons_zero, List.getElem_cons_succ] at h; rw [h]; exact List.getElem_mem _) this.1
  | x :: r, nd, i + 1, 0, hi, _, h => by
    have := List.nodup_cons.mp nd
    exact absurd (by simp only [List.getElem_cons_zero, List.getElem_cons_succ] at h; rw [← h]; exact List.getElem_mem _) this.1
  | x :: r, nd, i + 1, j + 1, hi, hj, h => by
    have := nd_inj (List.nodup_cons.mp nd).2 (i := i) (j := j) (by simpa using hi) (by simpa using hj) (by simpa using h)
    omega
/-! ### t.index(x) of a tuple of ints, the first place -/
def rTupIx (K : PySem.W.Frag) : V → List V → Hp → VK → Prop := fun x xs H Q => ∃ (p : Addr) (ys : List Int) (z : Int) (j : Nat), x = .ref p ∧ xs = [.int z] ∧ SqT K H p (ys.map V.int) ∧ ys[j]? = some z ∧ (∀ m, m < j → ys[m]? ≠ some z) ∧ Q (.int (j : Nat)) H
theorem mt_tupIx {X : Cx} {K : PySem.W.Frag} (hK : X.K = K) : MtR X "tuple.index" (rTupIx K) := by
  subst hK
  intro pins s σ H x xs v us Q I rx rs h
  obtain ⟨p, ys, z, j, rfl, rfl, hq, hy, hno, q⟩ := h
  cases rx
  obtain ⟨u, rfl, t, rfl⟩ := vals1 rs
  obtain ⟨its, r, pl, hz⟩ := I.tuple hq
  obtain ⟨⟨cls, dd, dt, sl⟩, ho, hc, n, hd⟩ := pl
  simp only at hc hd
  subst hc
  subst hd
  have hl : its.toArray.size = ys.length := by rw [List.size_toArray, ← r.length, List.length_map]
  have hj : j < its.toArray.size := by rw [hl]; exact (List.getElem?_eq_some_iff.mp hy).1
  have at' : ∀ (m : Nat) (hm : m < its.toArray.size), ∃ y t', ys[m]? = some y ∧ its.toArray[m] = Value.int y t' := fun m hm => by
    have hm' : m < ys.length := by rw [← hl]; exact hm
    obtain ⟨w, hw, t', hw'⟩ := r.get (i := m) (x := .int ys[m]) (by simp [hm'])
    refine ⟨ys[m], t', List.getElem?_eq_getElem hm', ?_⟩
    have e := (List.getElem?_eq_some_iff.mp hw).2
    rw [← hw', ← e]
    simp
  refine call_meets PySem.F.slot_tuple_index ⟨_, ho, rfl⟩ PySem.F.entry_tuple_index (PySem.F.args_tuple_index_2 _ _) (TI.tuple_indexAt p its.toArray n dd sl (.int z t) (eqU (.int z)) j hj ?_ ?_)
    ⟨ho, fun w hw => mem_eqAt (x := .int z) ⟨t, rfl⟩ rfl r (flat_ints ys) w (by simpa using hw), ⟨.int (j : Nat), H, I.tok _, ⟨_, rfl⟩, q⟩⟩
  · obtain ⟨y, t', h1, h2⟩ := at' j hj
    rw [hy] at h1
    cases h1
    rw [h2]
    show (z == z) = true
    exact beq_self_eq_true z
  · intro m hm hmj
    obtain ⟨y, t', h1, h2⟩ := at' m hm
    rw [h2]
    show (y == z) = false
    exact beq_eq_false_iff_ne.mpr fun e => hno m hmj (e ▸ h1)
/-- t.index(e) -/
def tTix (K : PySem.W.Frag) (to te : TE) : TE := fun σ H Q => to σ H fun x H1 => (∃ p xs, x = .ref p ∧ Ti H1 p xs) ∧ te σ H1 fun y H2 => rTupIx K x [y] H2 Q
theorem pe_tix {X : Cx} {K : PySem.W.Frag} {o e : Expr} {to te : TE} {apos cpos : Pos} (hK : X.K = K) (ho : PE X o to) (he : PE X e te)
    (hbase : attributeBase o "index" X.env (eval o X.env) = eval o X.env := by rfl)
    (hfew : ((backTo cpos (starEach (e :: []) X.env)).all (fun x => !x.1) && (backToKw cpos (keywordEach [] X.env)).all (fun x => x.1.isSome)
      && decide ((e :: ([] : List Expr)).length + ([] : List Keyword).length + (if ([] : List Keyword).isEmpty then 0 else 1) < 30)) = true := by rfl)
    (hline : (apos.endLine == cpos.line) = true := by rfl) (hs : starEach (e :: []) X.env = (false, eval e X.env) :: starEach [] X.env := by rfl) (hplain : (backTo cpos (starEach [] X.env)).any (·.1) = false := by rfl) :
    PE X (.Call (.Attribute o "index" apos) (e :: []) [] cpos) (tTix K to te) := by
  subst hK
  have ha : PA X [e] (tCons te tNil) := pa_cons he pa_nil hs
  refine ⟨fun pins s σ H Q I h => ?_⟩
  refine wpAny_Call_method_late hbase hfew hline rfl (thn (ho.run pins s σ H _ I h) fun v s1 ⟨x, H1, I1, r1, ⟨p, xs, ex, o1, hp, hdn⟩, q1⟩ => ?_)
  subst ex
  cases r1
  obtain ⟨hg, _, its, _, o2, hg2, hc, _⟩ := I1.hok p _ hp
  have eo : o1 = o2 := by
    rw [hg] at hg2
    exact Option.some.inj hg2
  subst eo
  refine ⟨"tuple", _, PySem.F.plainAttrs_tuple, PySem.F.slot_tuple_index, PySem.F.type_tuple_index, ⟨_, hg, hc⟩, fun a ea => ?_, ?_⟩
  · cases ea
    exact ⟨_, hg, hdn⟩
  have hA := ha.run cpos pins s1 σ H1 (fun vs H2 => rTupIx X.K (.ref p) vs H2 Q) I1 q1
  rw [hs] at hA ⊢
  refine Calls.callWith_builtin (by show (false || (backTo cpos (starEach [] X.env)).any (·.1)) = false; rw [hplain] <;> rfl) (Calls.evalArgs_plain ?_)
  exact thn hA fun us s2 ⟨vs, H2, I2, r2, q2⟩ => mt_tupIx rfl pins s2 σ H2 (.ref p) vs _ us Q I2 rfl r2 q2
theorem k_any {X : Cx} {K : PySem.W.Frag} (hK : X.K = K) (hc : X.calm = true) : CallR X (.builtin "any") (rAny K) := by
  subst hK
  exact cr_any hc
theorem sl_ti {K : PySem.W.Frag} {H : Hp} {a : Addr} {xs : List V} {Q : VK} {lo hi : Option Int} (h : Tu H a xs) (k : ∀ b H', Ex H H' → Tu H' b (cutV xs lo hi) → Q (.ref b) H') : rSlA K (.ref a) lo hi H Q :=
  ⟨a, xs, rfl, h.sq, fun w => k a H (Evl.Ex.refl H) (by rw [cut_whole w]; exact h), fun _ p hp => k p _ (Evl.Ex.new hp) (.inl upd_same)⟩
/-! ### [e for x in .. if ..], the values told -/
section
variable {K : PySem.W.Frag} {a : Addr} {tt : TT} {te : TE} {vs : List Nat} {σ : L2.St} {H1 : Hp} {D : Addr} {Qd : Hp → Prop} {j : Nat}
theorem mf_turn {α : Type} {xs : List α} (f : α → Bool) (g : α → V) (hD : H1 D = none) (hn : xs.length < 100000) {i : Nat} {x : α} {σ2 : L2.St} {H' : Hp} (hi : xs[i]? = some x) (e : Ex H1 H') (hy : H' D = some (.lst (((xs.take i).filter f).map g)))
    (ht : ∀ Q : Bool → Hp → Prop, (∀ H2, Ex H' H2 → Q (f x) H2) → tt σ2 H' Q) (he : ∀ H2, Ex H' H2 → f x = true → ∀ Q : VK, (∀ H3, Ex H2 H3 → Q (g x) H3) → te σ2 H2 Q) :
    tt σ2 H' fun b H3 => if b = true then te σ2 H3 fun y H4 => ∃ acc, H4 D = some (.lst acc) ∧ acc.length < sizeLine ∧ (Ex H1 (upd H4 D (.lst (acc ++ [y]))) ∧ (upd H4 D (.lst (acc ++ [y]))) D = some (.lst (((xs.take (i + 1)).filter f).map g)))
      else (Ex H1 H3 ∧ H3 D = some (.lst (((xs.take (i + 1)).filter f).map g))) := by
  have lt := (List.getElem?_eq_some_iff.mp hi).1
  have step : xs.take (i + 1) = xs.take i ++ [x] := by
    rw [List.take_succ, hi]
    rfl
  refine ht _ fun H2 e2 => ?_
  cases hf : f x with
  | true =>
    refine iteT (he H2 e2 hf _ fun H3 e3 => ⟨_, e3 _ _ (e2 _ _ hy), ?_, Evl.Ex.mut ((e.trans e2).trans e3) hD, ?_⟩)
    · rw [List.length_map]
      refine Nat.lt_of_le_of_lt (List.length_filter_le _ _) (Evl.sz_lt ?_)
      rw [List.length_take]
      omega
    · rw [upd_same, step, List.filter_append]
      simp [hf]
  | false =>
    refine iteF ⟨e.trans e2, ?_⟩
    rw [e2 _ _ hy, step, List.filter_append]
    simp [hf]
theorem mf_list {xs : List V} (f : V → Bool) (g : V → V) (hD : H1 D = none) (hx : SqL K H1 a xs) (hn : xs.length < 100000) (hw : ∀ x, wipe ((wipe σ vs).set j (some x)) vs = wipe σ vs)
    (ht : ∀ x H', x ∈ xs → Ex H1 H' → ∀ Q : Bool → Hp → Prop, (∀ H2, Ex H' H2 → Q (f x) H2) → tt ((wipe σ vs).set j (some x)) H' Q)
    (he : ∀ x H', x ∈ xs → Ex H1 H' → f x = true → ∀ Q : VK, (∀ H3, Ex H' H3 → Q (g x) H3) → te ((wipe σ vs).set j (some x)) H' Q)
    (hd : ∀ H', Ex H1 H' → H' D = some (.lst ((xs.filter f).map g)) → Qd H') :
    ∃ W : Nat → Nat → Hp → Prop, (∃ m, W 0 m (upd H1 D (.lst []))) ∧ ∀ i m H, W i m H →
      ((Itl K a).stop i H ∧ Qd H) ∨ ((Itl K a).go i H ∧ ∃ Nx : Hp → Prop, (∀ H', Nx H' → ∃ m', m' < m ∧ W (i + 1) m' H') ∧ ∀ x H', (Itl K a).yld i H x H' → gName j x (wipe σ vs) H' fun σ2 H2 => wipe σ2 vs = wipe σ vs ∧ tt σ2 H2 fun b H3 =>
        if b = true then te σ2 H3 fun y H4 => ∃ acc, H4 D = some (.lst acc) ∧ acc.length < sizeLine ∧ Nx (upd H4 D (.lst (acc ++ [y]))) else Nx H3) := by
  refine lc_list (xs := xs) (fun i H' => Ex H1 H' ∧ H' D = some (.lst (((xs.take i).filter f).map g))) ⟨Evl.Ex.new hD, by simp [upd_same]⟩ (fun i H' _ h => Evl.ex_l h.1 hx) ?_ ?_
  · rintro i x H' hi ⟨e, hy⟩
    have hm := List.mem_of_getElem? hi
    exact ⟨hw x, mf_turn f g hD hn hi e hy (ht x H' hm e) fun H2 e2 hf => he x H2 hm (e.trans e2) hf⟩
  · rintro H' ⟨e, hy⟩
    rw [List.take_of_length_le (Nat.le_refl _)] at hy
    exact hd H' e hy
theorem mf_tup {xs : List V} (f : V → Bool) (g : V → V) (hD : H1 D = none) (hx : SqT K H1 a xs) (hn : xs.length < 100000) (hw : ∀ x, wipe ((wipe σ vs).set j (some x)) vs = wipe σ vs)
    (ht : ∀ x H', x ∈ xs → Ex H1 H' → ∀ Q : Bool → Hp → Prop, (∀ H2, Ex H' H2 → Q (f x) H2) → tt ((wipe σ vs).set j (some x)) H' Q)
    (he : ∀ x H', x ∈ xs → Ex H1 H' → f x = true → ∀ Q : VK, (∀ H3, Ex H' H3 → Q (g x) H3) → te ((wipe σ vs).set j (some x)) H' Q)
    (hd : ∀ H', Ex H1 H' → H' D = some (.lst ((xs.filter f).map g)) → Qd H') :
    ∃ W : Nat → Nat → Hp → Prop, (∃ m, W 0 m (upd H1 D (.lst []))) ∧ ∀ i m H, W i m H →
      ((Itt K a).stop i H ∧ Qd H) ∨ ((Itt K a).go i H ∧ ∃ Nx : Hp → Prop, (∀ H', Nx H' → ∃ m', m' < m ∧ W (i + 1) m' H') ∧ ∀ x H', (Itt K a).yld i H x H' → gName j x (wipe σ vs) H' fun σ2 H2 => wipe σ2 vs = wipe σ vs ∧ tt σ2 H2 fun b H3 =>
        if b = true then te σ2 H3 fun y H4 => ∃ acc, H4 D = some (.lst acc) ∧ acc.length < sizeLine ∧ Nx (upd H4 D (.lst (acc ++ [y]))) else Nx H3) := by
  refine lc_tup (xs := xs) (fun i H' => Ex H1 H' ∧ H' D = some (.lst (((xs.take i).filter f).map g))) ⟨Evl.Ex.new hD, by simp [upd_same]⟩ (fun i H' _ h => Evl.ex_t h.1 hx) ?_ ?_
  · rintro i x H' hi ⟨e, hy⟩
    have hm := List.mem_of_getElem? hi
    exact ⟨hw x, mf_turn f g hD hn hi e hy (ht x H' hm e) fun H2 e2 hf => he x H2 hm (e.trans e2) hf⟩
  · rintro H' ⟨e, hy⟩
    rw [List.take_of_length_le (Nat.le_refl _)] at hy
    exact hd H' e hy
/-- lo, lo + 1, .. n of them -/
def rgL (lo : Int) (n : Nat) : List Int := (List.range n).map fun (i : Nat) => lo + (i : Int)
theorem rgL_len (lo : Int) (n : Nat) : (rgL lo n).length = n := by unfold rgL; simp
theorem rgL_get {lo : Int} {n i : Nat} (h : i < n) : (rgL lo n)[i]? = some (lo + (i : Int)) := by unfold rgL; simp [h]
theorem mem_rgL {lo x : Int} {n : Nat} : x ∈ rgL lo n ↔ lo ≤ x ∧ x < lo + n := by
  unfold rgL
  simp only [List.mem_map, List.mem_range]
  constructor
  · rintro ⟨k, hk, rfl⟩
    omega
  · rintro ⟨h0, h1⟩
    exact ⟨(x - lo).toNat, by omega, by omega⟩
theorem mf_range {lo : Int} {n : Nat} (f : Int → Bool) (g : Int → V) (hD : H1 D = none) (hn : n < 100000) (hw : ∀ x, wipe ((wipe σ vs).set j (some x)) vs = wipe σ vs)
    (ht : ∀ x H', x ∈ rgL lo n → Ex H1 H' → ∀ Q : Bool → Hp → Prop, (∀ H2, Ex H' H2 → Q (f x) H2) → tt ((wipe σ vs).set j (some (.int x))) H' Q)
    (he : ∀ x H', x ∈ rgL lo n → Ex H1 H' → f x = true → ∀ Q : VK, (∀ H3, Ex H' H3 → Q (g x) H3) → te ((wipe σ vs).set j (some (.int x))) H' Q)
    (hd : ∀ H', Ex H1 H' → H' D = some (.lst (((rgL lo n).filter f).map g)) → Qd H') :
    ∃ W : Nat → Nat → Hp → Prop, (∃ m, W 0 m (upd H1 D (.lst []))) ∧ ∀ i m H, W i m H →
      ((Itr lo n).stop i H ∧ Qd H) ∨ ((Itr lo n).go i H ∧ ∃ Nx : Hp → Prop, (∀ H', Nx H' → ∃ m', m' < m ∧ W (i + 1) m' H') ∧ ∀ x H', (Itr lo n).yld i H x H' → gName j x (wipe σ vs) H' fun σ2 H2 => wipe σ2 vs = wipe σ vs ∧ tt σ2 H2 fun b H3 =>
        if b = true then te σ2 H3 fun y H4 => ∃ acc, H4 D = some (.lst acc) ∧ acc.length < sizeLine ∧ Nx (upd H4 D (.lst (acc ++ [y]))) else Nx H3) := by
  refine lc_range (lo := lo) (n := n) (fun i H' => Ex H1 H' ∧ H' D = some (.lst ((((rgL lo n).take i).filter f).map g))) ⟨Evl.Ex.new hD, by simp [upd_same]⟩ ?_ ?_
  · rintro i H' hi ⟨e, hy⟩
    have hg := rgL_get (lo := lo) hi
    have hm := List.mem_of_getElem? hg
    exact ⟨hw _, mf_turn f g hD (by rw [rgL_len]; exact hn) hg e hy (ht _ H' hm e) fun H2 e2 hf => he _ H2 hm (e.trans e2) hf⟩
  · rintro H' ⟨e, hy⟩
    rw [List.take_of_length_le (by rw [rgL_len]; exact Nat.le_refl _)] at hy
    exact hd H' e hy
theorem tt_yes {σ2 : L2.St} {H' : Hp} {Q : Bool → Hp → Prop} (q : ∀ H2, Ex H' H2 → Q true H2) : tYes σ2 H' Q := q H' (Evl.Ex.refl H')
end
/-! ### {x: i for i, x in enumerate(a tuple of different ints)} -/
section
variable {K : PySem.W.Frag} {a : Addr} {vs : List Nat} {σ : L2.St} {H1 : Hp} {D : Addr} {Qd : Hp → Prop} {i j : Nat} {tk tv : TE}
theorem dc_places {ns : List Int} (nd : ns.Nodup) (hn : ns.length < 100000) (hD : H1 D = none) (ha : Tu H1 a (ns.map V.int))
    (hw : ∀ x y, wipe (((wipe σ vs).set i (some x)).set j (some y)) vs = wipe σ vs)
    (hk : ∀ x y H' (R : VK), R y H' → tk (((wipe σ vs).set i (some x)).set j (some y)) H' R) (hv : ∀ x y H' (R : VK), R x H' → tv (((wipe σ vs).set i (some x)).set j (some y)) H' R)
    (hd : ∀ kvs H', Ex H1 H' → H' D = some (.dK kvs) → (∀ (k : Nat) (z : Int), ns[k]? = some z → valV kvs (Sum.inl z : Key) = some (.int (k : Int))) → Qd H') :
    ∃ W : Nat → Nat → Hp → Prop, (∃ m, W 0 m (upd H1 D (.dK []))) ∧ ∀ n m H, W n m H →
      ((ItT a (ns.map V.int)).stop n H ∧ Qd H) ∨ ((ItT a (ns.map V.int)).go n H ∧ ∃ Nx : Hp → Prop, (∀ H', Nx H' → ∃ m', m' < m ∧ W (n + 1) m' H') ∧ ∀ x H', (ItT a (ns.map V.int)).yld n H x H' →
        gTup K 2 (gCons (gName i) (gCons (gName j) gNil)) x (wipe σ vs) H' fun σ2 H2 => wipe σ2 vs = wipe σ vs ∧ tYes σ2 H2 fun b H3 =>
        if b = true then tk σ2 H3 fun y H4 => tv σ2 H4 fun z H5 => ∃ kvs k, y = kV k ∧ H5 D = some (.dK kvs) ∧ kvs.length < sizeLine ∧ Nx (upd H5 D (.dK (putK kvs k z))) else Nx H3) := by
  refine ⟨fun n m H' => m = ns.length - n ∧ n ≤ ns.length ∧ Ex H1 H' ∧ ∃ kvs, H' D = some (.dK kvs) ∧ kvs.length ≤ n ∧ ∀ (k : Nat) (z : Int), k < n → ns[k]? = some z → valV kvs (Sum.inl z : Key) = some (.int (k : Int)), ⟨_, rfl, Nat.zero_le _, Evl.Ex.new hD, [], upd_same, Nat.le_refl _, fun k z h => absurd h (Nat.not_lt_zero _)⟩, ?_⟩
  rintro n m H' ⟨rfl, hle, e, kvs, hk1, hk2, hk3⟩
  have ha' := ha.ex e
  by_cases lt : n < ns.length
  · refine .inr ⟨⟨ha', by rw [List.length_map]; exact lt⟩, _, fun H2 q => ⟨ns.length - (n + 1), by omega, rfl, lt, q⟩, ?_⟩
    rintro y H3 ⟨T, x, rfl, hT, hx, rfl⟩
    rw [List.getElem?_map, List.getElem?_eq_getElem lt] at hx
    cases hx
    refine ⟨T, _, rfl, SqT.of upd_same, rfl, _, _, rfl, _, _, rfl, rfl, hw _ _, yesT (hk _ _ _ _ (hv _ _ _ _ ⟨kvs, Sum.inl ns[n], rfl, ?_, ?_, ?_⟩))⟩
    · rw [upd_ne (ne_of_none hk1 hT)]
      exact hk1
    · exact Nat.lt_of_le_of_lt hk2 (Evl.sz_lt (by omega))
    · refine ⟨Evl.Ex.mut (e.trans (Evl.Ex.new hT)) hD, _, upd_same, ?_, fun k z hkn hz => ?_⟩
      · have := length_putK kvs (Sum.inl ns[n] : Key) (.int (n : Int))
        omega
      · rw [valV_put]
        by_cases hkn2 : k < n
        · have hz2 := List.getElem?_eq_some_iff.mp hz
          obtain ⟨hkl, hz3⟩ := hz2
          have : ¬ (Sum.inl z : Key) = Sum.inl ns[n] := fun q => by
            have q2 := Sum.inl.inj q
            rw [← hz3] at q2
            have := nd_inj nd hkl lt q2
            omega
          rw [if_neg this]
          exact hk3 k z hkn2 hz
        · have ek : k = n := by omega
          subst ek
          rw [List.getElem?_eq_getElem lt] at hz
          cases hz
          rw [if_pos rfl]
  · have en : n = ns.length := by omega
    subst en
    exact .inl ⟨⟨ha', by rw [List.length_map]; exact Nat.le_refl _⟩, hd kvs H' e hk1 fun k z hz => hk3 k z (List.getElem?_eq_some_iff.mp hz).1 hz⟩
end
end Lr

namespace Lr
open PySem L2
/-! ### errors of own classes that are kept in names and lists -/
/-- an error stands at e: of the class C, with one field or none -/
def ErAt (H : Hp) (e C : Addr) : Option (Str × V) → Prop
  | none => H e = some (exo e C none)
  | some (f, y) => ∃ d, H e = some (exo e C (some d)) ∧ H d = some (exd d [(f, y)])
theorem ErAt.mono {H H' : Hp} {e C : Addr} {o : Option (Str × V)} (x : Ex H H') (h : ErAt H e C o) : ErAt H' e C o := by
  cases o with
  | none => exact x _ _ h
  | some p =>
    obtain ⟨d, a, b⟩ := h
    exact ⟨d, x _ _ a, x _ _ b⟩
/-- what a class must have so that its instances can be asked -/
structure IsC (K : PySem.W.Frag) (C : Addr) : Prop where
  cl : (PySem.W.clsIn K C).isSome = true
  ga : PySem.W.findIn K (.ref C) "__getattribute__" = some (some (.builtin "BaseException.__getattribute__"))
  gg : PySem.W.findIn K (.ref C) "__getattr__" = some none
  sb : PySem.W.subIn K (.ref C) (.type "BaseException") = some true
  ca : PySem.W.findIn K (.ref C) "__class__" = some (some (.builtin "object.__class__"))
  sp : PySem.W.specialIn K (.builtin "object.__class__") "__get__" = some (some (.builtin "getset_descriptor.__get__"))
  tk : PySem.W.takesIn K (.builtin "object.__class__") = some true
  mr : PySem.W.mroIn K C (.type "object") = some true
def isCB (K : PySem.W.Frag) (C : Addr) : Bool := (PySem.W.clsIn K C).isSome && (decide (PySem.W.findIn K (.ref C) "__getattribute__" = some (some (.builtin "BaseException.__getattribute__"))) && (decide (PySem.W.findIn K (.ref C) "__getattr__" = some none) &&
  (decide (PySem.W.subIn K (.ref C) (.type "BaseException") = some true) && (decide (PySem.W.findIn K (.ref C) "__class__" = some (some (.builtin "object.__class__"))) && (decide (PySem.W.specialIn K (.builtin "object.__class__") "__get__" = some (some (.builtin "getset_descriptor.__get__"))) &&
  (decide (PySem.W.takesIn K (.builtin "object.__class__") = some true) && decide (PySem.W.mroIn K C (.type "object") = some true)))))))
theorem isCB_ok {K : PySem.W.Frag} {C : Addr} (h : isCB K C = true) : IsC K C := by
  obtain ⟨h1, h⟩ := Bool.and_eq_true_iff.mp h
  obtain ⟨h2, h⟩ := Bool.and_eq_true_iff.mp h
  obtain ⟨h3, h⟩ := Bool.and_eq_true_iff.mp h
  obtain ⟨h4, h⟩ := Bool.and_eq_true_iff.mp h
  obtain ⟨h5, h⟩ := Bool.and_eq_true_iff.mp h
  obtain ⟨h6, h⟩ := Bool.and_eq_true_iff.mp h
  obtain ⟨h7, h8⟩ := Bool.and_eq_true_iff.mp h
  exact ⟨h1, of_decide_eq_true h2, of_decide_eq_true h3, of_decide_eq_true h4, of_decide_eq_true h5, of_decide_eq_true h6, of_decide_eq_true h7, of_decide_eq_true h8⟩
section
variable {X : Cx}
/-- the instance in the heap -/
theorem inst_at {P : Program} {w : World} {H : Hp} {h : Heap} {e C : Addr} {o : Option (Str × V)} (hok : HOk P w H h) (he : ErAt H e C o) : ∃ ox od, PySem.W.InstAt h e ox C od := by
  cases o with
  | none =>
    obtain ⟨t, ho⟩ := exo_at hok he
    exact ⟨_, none, ho, rfl, rfl, trivial⟩
  | some p =>
    obtain ⟨d, ha, hd⟩ := he
    obtain ⟨t, ho⟩ := exo_at hok ha
    obtain ⟨mA, ⟨od, _, _, hod, _⟩, _⟩ := exd_at hok hd
    exact ⟨_, some od, ho, rfl, rfl, hod⟩
/-- isinstance(e, c) -/
def rIsEr (K : PySem.W.Frag) : List V → Hp → VK → Prop := fun xs H Q => ∃ (e C : Addr) (o : Option (Str × V)) (c : V) (cv : Value) (b : Bool), xs = [.ref e, c] ∧ ErAt H e C o ∧ IsC K C ∧ (∀ u, RelV c u → u = cv) ∧ PySem.W.kitOne K (.ref C) cv = some b ∧ Q (.bl b) H
theorem k_isEr {K : PySem.W.Frag} (hK : X.K = K) : CallR X (.builtin "isinstance") (rIsEr K) := by
  subst hK
  intro pins s σ H xs us Q I r h
  obtain ⟨e, C, o, c, cv, b, rfl, he, T, hcv, ek, q⟩ := h
  cases r with
  | cons rx rr =>
    cases rr with
    | cons rt rr =>
      cases rr
      cases rx
      have ec := hcv _ rt
      subst ec
      obtain ⟨ox, od, J⟩ := inst_at I.hok he
      exact PySem.W.kia_one (PySem.W.kitx_exc (ox := ox) (od := od) T.cl T.ga T.gg T.sb T.ca T.sp T.tk T.mr) I.kIn J ek (fun z => nomatch z) fun tk => ⟨.bl b, H, I.kept (t' := tk) fun _ _ z => z, rfl, q⟩
/-- e.f -/
def tErf (K : PySem.W.Frag) (f : Str) (te : TE) : TE := fun σ H Q => te σ H fun x H1 => ∃ (a C : Addr) (v : V), x = .ref a ∧ ErAt H1 a C (some (f, v)) ∧ XfC K C ∧ PySem.W.findIn K (.ref C) f = some none ∧ Q v H1
theorem pe_erf {K : PySem.W.Frag} {e : Expr} {te : TE} {pos : Pos} {n : Str} (hK : X.K = K) (he : PE X e te) (hb : attributeBase e n X.env (eval e X.env) = eval e X.env := by rfl) : PE X (.Attribute e n pos) (tErf K n te) := by
  subst hK
  refine ⟨fun pins s σ H Q I h => ?_⟩
  refine attr_of hb (thn (he.run pins s σ H _ I h) fun u s1 hh => ?_)
  obtain ⟨x, H1, I1, rx, a, C, v, ex, ⟨d, ha, hd⟩, T, hno, q⟩ := hh
  subst ex
  obtain rfl : u = Value.ref a := rx
  obtain ⟨t, ho⟩ := exo_at I1.hok ha
  obtain ⟨mA, hns, hr⟩ := exd_at I1.hok hd
  obtain ⟨od, hod, hl⟩ := lookIn_ns hns
  obtain ⟨u, hu, ru⟩ := RelO.some_of (v := v) (o := mA n) (by have z := hr n; rw [lookup_put, if_pos rfl] at z; exact z)
  exact HandSPX.exc_get I1.kIn (od := some od) ⟨ho, rfl, rfl, hod⟩ T.ga T.gg T.exC (PySem.W.findObj_own T.hdC hno rfl (by rw [hl, hu])) (handed_of ru) ⟨v, H1, I1.tok _, ru, q⟩
end
/-! ### made with one field by an own __init__ -/
def spInit (K : PySem.W.Frag) (f : Str) : Sp := fun vs H Q _ => ∃ (a C : Addr) (y : V), vs = [.ref a, y] ∧ OexC K C ∧ PySem.W.findIn K (.ref C) f = some none ∧ H a = some (exo a C none) ∧ ∀ d, H d = none → d ≠ a → Q .non (upd (upd H d (exd d [(f, y)])) a (exo a C (some d)))
def Er1 (P : Program) (w : World) (K : PySem.W.Frag) (mg : Str → Option Value) (base : Heap) (x : Str) (C : Addr) (f : Str) : Prop :=
  OexC K C ∧ mg x = some (.ref C) ∧ PySem.W.findIn K (.ref C) f = some none ∧ XfC K C ∧ IsC K C ∧ ∃ fI fd, PySem.W.findIn K (.ref C) "__init__" = some (some (.ref fI)) ∧ PySem.W.typeIn K (.ref fI) = some (.type "function") ∧ FnOk P w K mg base CX0 1 fI fd ["self", f] (spInit K f) ∧ Binds K fd ["self", f] []
/-- C(e) -/
def tMk1 (C : Addr) (f : Str) (te : TE) : TE := fun σ H Q => te σ H fun y H1 => ∀ a H2, Ex H1 H2 → H1 a = none → ErAt H2 a C (some (f, y)) → Q (.ref a) H2
theorem pe_mk1 {X : Cx} {x f : Str} {C : Addr} {e : Expr} {te : TE} {p pos : Pos} (E : Er1 X.prog X.w X.K X.mg X.base x C f) (hr : Room 2 X.A) (hg : Gl X x) (hE : PE X e te)
    (hdb : (x == ("__debug__" : Str)) = false := by decide) (he : starEach [e] X.env = (false, eval e X.env) :: starEach [] X.env := by rfl) (hpl : (backTo pos (starEach [] X.env)).any (·.1) = false := by rfl) :
    PE X (.Call (.Name x p) [e] [] pos) (tMk1 C f te) := by
  obtain ⟨T, hm, hno, _, _, fI, fd, iC, tI, F1, hb⟩ := E
  have ha : PA X [e] (tCons te tNil) := pa_cons hE pa_nil he
  refine ⟨fun pins s σ H Q I h => ?_⟩
  obtain ⟨nm, q, N, bs, bm, sn, sub, ab, col, dd, k0, k1, k2, k3, k5, hC, hbm⟩ := T.cls
  refine wpAny_Call_Name_kw (ld_glob I hg hm ?_ hdb)
  refine PySem.W.callWith_K (h₀ := X.base) I.ok.mod.kin T.kC (thn (ha.run pos pins s σ H (fun vs H1 => match vs with | [y] => ∀ a H2, Ex H1 H2 → H1 a = none → ErAt H2 a C (some (f, y)) → Q (.ref a) H2 | _ => False) I h) fun us s1 ⟨vs, H1, I1, r1, q1⟩ => ⟨I1.kIn, ?_⟩) he hpl
  obtain ⟨y, rfl⟩ : ∃ y, vs = [y] := by
    match vs, q1 with
    | [y], _ => exact ⟨y, rfl⟩
  show wpAny _ _ (call (.ref C) us) _ _ _
  obtain ⟨hp, g, dr, tk, os⟩ := s1
  have hsz : hp.objs.size ≤ hp.objs.size + 1 := Nat.le_succ _
  have hn : H1 (hp.objs.size + 1) = none := I1.hok.fresh hsz
  have kk : ∀ b o, hp.get? b = some o → ((hp.push (PySem.W.kdv_tup us)).push (PySem.HandSPX.excO C hp.objs.size)).get? b = some o := fun b o e => Heap.get?_push_of_some _ (Heap.get?_push_of_some _ e)
  have hget : ((hp.push (PySem.W.kdv_tup us)).push (PySem.HandSPX.excO C hp.objs.size)).get? (hp.objs.size + 1) = some (PySem.HandSPX.excO C hp.objs.size) := by heap_get
  have I2 : Inv X pins σ (upd H1 (hp.objs.size + 1) (exo (hp.objs.size + 1) C none)) ⟨(hp.push (PySem.W.kdv_tup us)).push (PySem.HandSPX.excO C hp.objs.size), g, dr, tk, os⟩ :=
    I1.laid (t' := tk) (a := hp.objs.size + 1) (o := exo (hp.objs.size + 1) C none) (h' := (hp.push (PySem.W.kdv_tup us)).push (PySem.HandSPX.excO C hp.objs.size)) kk hsz (exo_ok hget)
  have r2 : Vals (V.ref (hp.objs.size + 1) :: [y]) (Value.ref (hp.objs.size + 1) :: us) := .cons rfl r1
  have hl : (Value.ref (hp.objs.size + 1) :: us).length = ([("self" : Str), f]).length := r2.length.symm
  have hus : us.length ≤ sizeLine := by
    rw [← Paired.length r1, sizeLine_eq]
    show 1 ≤ _
    omega
  generalize hap : hp.objs.size + 1 = a at hn hget I2 r2 hl hsz ⊢
  have hq : spInit X.K f (V.ref a :: [y]) (upd H1 a (exo a C none)) (fun v H2 => v = .non ∧ Q (.ref a) H2) E0 := by
    refine ⟨a, C, y, rfl, T, hno, upd_same, fun d hd nd => ⟨rfl, ?_⟩⟩
    have nd1 : H1 d = none := by rw [upd_ne nd] at hd; exact hd
    refine q1 a _ (fun b o hbo => ?_) hn ⟨d, upd_same, ?_⟩
    · rw [upd_ne (ne_of_none hbo hn), upd_ne (ne_of_none hbo nd1), upd_ne (ne_of_none hbo hn)]
      exact hbo
    · rw [upd_ne nd, upd_same]
  have hcall := F1.run ((X.A.under (.builtin "type.__call__" ⟨.ref C :: us, []⟩))) X.stack _ _ ⟨Value.ref a :: us, []⟩ (Value.ref a :: us) _ _ E0 ((hr.mono (by decide)).make C us []) (I2.env0.make C us []) (by have z := hb _ (Value.ref a :: us) I2.kIn (by rw [List.append_nil]; exact hl); rw [List.append_nil] at z; exact z) r2 hq
  subst hap
  refine wpAny_call (PySem.HandSPX.call_own F.excBase_ValueError (fun Y => PySem.HandSPX.refsVE_contains Y bm hbm) (I1.kIn _ _ hC) (PySem.W.looks_findIn I1.kIn iC) (fun self => PySem.W.bind_fn I1.kIn self tI) hus
    (codeAny_mono hcall fun r s' hq' => ?_))
  cases r with
  | error er => exact hq'.elim
  | ok fl =>
    cases fl with
    | ret u =>
      obtain ⟨v, H2, J, rv, ev, q2⟩ := I2.after hq'
      subst ev
      exact ⟨rv, .ref (hp.objs.size + 1), H2, J, rfl, q2⟩
    | next => exact False.elim hq'
    | brk => exact False.elim hq'
    | cont => exact False.elim hq'
/-! ### made without arguments -/
def Er0 (K : PySem.W.Frag) (mg : Str → Option Value) (x : Str) (C : Addr) : Prop := mg x = some (.ref C) ∧ PySem.W.keepIn K (.ref C) = true ∧ PySem.W.excIn K C PySem.HandSPX.veTail "ValueError.__new__" = true ∧ IsC K C
def tMk0 (C : Addr) : TE := fun σ H Q => ∀ a H2, Ex H H2 → H a = none → ErAt H2 a C none → Q (.ref a) H2
theorem pe_mk0 {X : Cx} {x : Str} {C : Addr} {p pos : Pos} (E : Er0 X.K X.mg x C) (hg : Gl X x) (hdb : (x == ("__debug__" : Str)) = false := by decide) : PE X (.Call (.Name x p) [] [] pos) (tMk0 C) := by
  obtain ⟨hm, kC, q, _⟩ := E
  refine ⟨fun pins s σ H Q I h => ?_⟩
  refine wpAny_Call_Name_kw (ld_glob I hg hm ?_ hdb)
  refine PySem.W.callWith_K0 I.kIn kC ?_
  show wpAny _ _ (call (.ref C) []) _ _ _
  obtain ⟨bm, N, nm, qn, bs, hdct, sn, sub, ab, col, dd, k0, k1, k2, k3, k5, mN, hC, hN, hni, T⟩ := exc_obj I.kIn q
  obtain ⟨hp, g, d, t, os⟩ := s
  refine wpAny_call_exc_subT F.excBase_ValueError T hC hN hni (fun h' e hx => ?_) (by decide)
  have hn : H e = none := I.hok.gone hx.new
  obtain ⟨t1, he, _, _⟩ := hx.there
  have J : Inv X pins σ (upd H e (exo e C none)) ⟨h', g, d, t, os⟩ := I.laidN (t' := t) (o := exo e C none) hx.keeps hx.new hn (exo_ok he)
  exact ⟨.ref e, _, J, rfl, h e _ (Evl.Ex.new hn) hn upd_same⟩
end Lr

namespace Lr
open PySem L2
def topS (i : Nat) : Stmt := PySem.Challenge.pw_lanerules_k01_limits_and_errors.main.body.getD i (.Pass ⟨0, 0, 0, 0⟩)
abbrev sRoll : Stmt := topS 38
abbrev nRoll : List Str := ["_law_can", "_law_many", "_law_rest", "_law_times", "_law_cells", "_law_seed"]
theorem scRoll : FnScope nRoll ["_law_can", "_law_many"] (defScope sRoll) :=
  ⟨rfl, rfl, rfl, by decide +kernel, rfl, by decide +kernel, by decide +kernel⟩
section
variable {H : Hp} {c d a : Addr} {t t' : Int}
theorem val_deep : valV (canKvs d a t) (Sum.inr "deep" : Key) = some (.ref d) := by
  simp [valV, canKvs]
theorem val_all : valV (canKvs d a t) (Sum.inr "all" : Key) = some (.ref a) := by
  have e : ¬ ((Sum.inr "deep" : Key) = (Sum.inr "all" : Key)) := by decide
  simp [valV, canKvs, List.find?, e]
theorem val_times : valV (canKvs d a t) (Sum.inr "times" : Key) = some (.int t) := by
  have e : ¬ ((Sum.inr "deep" : Key) = (Sum.inr "times" : Key)) := by decide
  have e2 : ¬ ((Sum.inr "all" : Key) = (Sum.inr "times" : Key)) := by decide
  simp [valV, canKvs, List.find?, e, e2]
theorem put_times : putK (canKvs d a t) (Sum.inr "times" : Key) (.int t') = canKvs d a t' := by
  have e : ¬ ((Sum.inr "deep" : Key) = (Sum.inr "times" : Key)) := by decide
  have e2 : ¬ ((Sum.inr "all" : Key) = (Sum.inr "times" : Key)) := by decide
  simp [putK, canKvs, e, e2]
theorem merge_can : mergeK [] (canKvs d a t) = canKvs d a t := by
  have e : ¬ ((Sum.inr "deep" : Key) = (Sum.inr "times" : Key)) := by decide
  have e1 : ¬ ((Sum.inr "deep" : Key) = (Sum.inr "all" : Key)) := by decide
  have e2 : ¬ ((Sum.inr "all" : Key) = (Sum.inr "times" : Key)) := by decide
  simp [mergeK, putK, canKvs, e, e1, e2]
theorem get_deep (h : H c = some (.dK (canKvs d a t))) : DGet H c (.str "deep") (some (.ref d)) := by
  have g := DGet.k (k := Sum.inr "deep") h
  rw [val_deep] at g
  exact g
theorem get_all (h : H c = some (.dK (canKvs d a t))) : DGet H c (.str "all") (some (.ref a)) := by
  have g := DGet.k (k := Sum.inr "all") h
  rw [val_all] at g
  exact g
theorem get_times (h : H c = some (.dK (canKvs d a t))) : DGet H c (.str "times") (some (.int t)) := by
  have g := DGet.k (k := Sum.inr "times") h
  rw [val_times] at g
  exact g
theorem put_time (h : H c = some (.dK (canKvs d a t))) : DPut H c (.str "times") (.int t') (upd H c (.dK (canKvs d a t'))) := by
  have g := DPut.k (k := Sum.inr "times") (v := .int t') h (by show 3 < sizeLine; decide)
  rw [put_times] at g
  exact g
end
/-- data: a list of ints -/
theorem dp_ints (K : PySem.W.Frag) (H : Hp) : ∀ ds : List Int, DpAll K H (ds.map V.int) (ds.map PyData.int)
  | [] => .nil
  | x :: r => .cons (.int x) (dp_ints K H r)
theorem lay_ints : ∀ ds : List Int, PyData.canLayAll0 (ds.map PyData.int) = true
  | [] => by simp [PyData.canLayAll0]
  | x :: r => by simp [PyData.canLayAll0, PyData.canLay0, lay_ints r]
theorem depth_ints : ∀ ds : List Int, PyData.depthAll (ds.map PyData.int) ≤ 1
  | [] => by simp [PyData.depthAll]
  | x :: r => by
    have := depth_ints r
    simp [PyData.depthAll, PyData.depth]
    omega
theorem shaped_ints (ds : List Int) : SeqAt.shaped (.list (ds.map PyData.int)) = true := by
  have h1 := depth_ints ds
  have h2 : (PyData.list (ds.map PyData.int)).depth ≤ 64 := by
    simp only [PyData.depth]
    omega
  have h3 : (PyData.list (ds.map PyData.int)).canLay0 = true := by
    simp only [PyData.canLay0]
    exact lay_ints ds
  unfold SeqAt.shaped
  rw [h3, decide_eq_true h2]
  rfl
theorem eqv_nil (ds : List Int) : PyData.eqv (.list (ds.map .int)) (.list []) = ds.isEmpty := by
  cases ds <;> simp [PyData.eqv, PyData.eqvAll]
section
variable {P : Program} {w : World} {K : PySem.W.Frag} {mg : Str → Option Value} {base : Heap}
def spRoll (P : Program) (w : World) : Sp := fun vs H Q _ => ∃ c m, vs = [.ref c, .int m] ∧ Can P w H c ∧ 0 < m ∧ m < 1000000 ∧ ∀ r H', Ex H H' → 0 ≤ r → r < m → Q (.int r) H'
theorem ok_roll {f : Addr} {fd : FuncData} (F : Fun K "_law_roll" "_law_roll" sRoll f fd) (ml : mg "len" = none) : FnOk P w K mg base CX0 1 f fd ["_law_can", "_law_many"] (spRoll P w) := by
  refine F.ok scRoll (fun vs H Q E h => ?_) (fun cdv A outer s H vs Q E hr h => ?_)
  · obtain ⟨c, m, rfl, _⟩ := h
    rfl
  obtain ⟨c, m, rfl, C, hm, hm2, k⟩ := h
  have hu := hu_of hr
  refine ⟨_, pss_drawer (pss_cons (ps_while PassesOwn.never (pt_cmpR (op_neD hr.units) (pe_dget hu (pv 0) pe_str (fun _ _ => rfl)) (pe_lst pa_nil) (nomark _))
      (pss_cons (ps_set (i := 2) scRoll.nd rfl (.inl rfl) (pe_bm PySem.F.plainAttrs_list PySem.F.slot_list_pop PySem.F.type_list_pop mt_popAt (pe_dget hu (pv 0) pe_str (fun _ _ => rfl)) (pa_cons pe_int pa_nil)))
      (pss_one (ps_if (pt_cmpR op_gt (pv 2) pe_int (nomark _))
        (pss_cons (ps_expr (pe_bm PySem.F.plainAttrs_list PySem.F.slot_list_insert PySem.F.type_list_insert mt_insert (pe_dget hu (pv 0) pe_str (fun _ _ => rfl)) (pa_cons pe_int (pa_cons (pe_op op_fdivW (pv 2) (pv 1)) pa_nil))))
        (pss_one (ps_ret (pe_op op_modN (pv 2) (pv 1))))) pss_nil))))
    (pss_cons (ps_par rfl scRoll.nd (i := 3) (j := 4) rfl rfl (by decide) rfl rfl (pa_cons (pe_dget hu (pv 0) pe_str (fun _ _ => rfl)) (pa_cons (pe_dget hu (pv 0) pe_str (fun _ _ => rfl)) pa_nil)) rfl)
    (pss_cons (ps_dput hu (pv 0) pe_str (pe_op op_add (pv 3) pe_int) rfl)
    (pss_cons (ps_set (i := 5) scRoll.nd rfl (.inl rfl) (pe_op op_add (pe_op op_modN (pe_ix ix_list (pv 4) (pe_op op_modN (pv 3) (pe_callB call_len_seq rfl ml PySem.boot_len (pa_cons (pv 4) pa_nil))) (fun _ _ => rfl)) pe_int) (pe_op op_mul pe_int (pe_op op_add (pv 3) pe_int))))
    (pss_cons (ps_set (i := 5) scRoll.nd rfl (.inl rfl) (pe_op op_modN (pe_op op_mul (pe_op op_modN (pv 5) pe_int) (pe_op op_add (pe_op op_modN (pv 5) pe_int) pe_int)) pe_int))
    (pss_cons (ps_set (i := 5) scRoll.nd rfl (.inl rfl) (pe_op op_modN (pe_op op_mul (pe_op op_modN (pe_op op_add (pe_op op_mul (pv 5) (pv 5)) (pe_op op_mul pe_int (pv 3))) pe_int) pe_int) pe_int))
    (pss_one (ps_ret (pe_op op_modN (pe_op op_fdivW (pv 5) pe_int) (pv 1)))))))))), ?_⟩
  obtain ⟨d, a, cs, h1, h2, h3, h4, h5, hcd⟩ := C
  refine ⟨c, d, a, h1, h2, hcd, fun tm ds g => ?_⟩
  have nac : a ≠ c := ne_of h3 h1 (by intro z; cases z)
  have nad : a ≠ d := ne_of h3 h2 (by intro z; cases z)
  -- what stays while the drawer is open
  have back : ∀ H1 : Hp, (∀ b o, b ≠ c → b ≠ d → H b = some o → H1 b = some o) → Ex H (upd (upd H1 c (.ext (phiC P w c d a))) d (.ext (phiD P w d))) := fun H1 o b u e => by
    by_cases hb : b = d
    · subst hb
      rw [upd_same, ← h2]
      exact e
    · rw [upd_ne hb]
      by_cases hc : b = c
      · subst hc
        rw [upd_same, ← h1]
        exact e
      · rw [upd_ne hc]
        exact o b u hc hb e
  -- while can['deep'] != []
  refine ⟨fun n σ H' => ∃ ds rv, n = ds.length ∧ σ = [some (.ref c), some (.int m), rv, none, none, none] ∧ H' c = some (.dK (canKvs d a tm)) ∧ H' d = some (.lst (ds.map V.int)) ∧ DeepOk ds ∧
      ∀ b o, b ≠ c → b ≠ d → H b = some o → H' b = some o,
    ⟨_, ds, none, rfl, rfl, by rw [upd_ne hcd.symm, upd_same], upd_same, g, fun b o n1 n2 e => by rw [upd_ne n2, upd_ne n1]; exact e⟩, ?_⟩
  rintro n σ H' ⟨ds, rv, rfl, rfl, e1, e2, g, o⟩
  refine ⟨_, rfl, c, _, rfl, get_deep e1, (by show 0 ≤ sizeLine; decide), fun p hp => ?_⟩
  have npc : c ≠ p := ne_of_none e1 hp
  have npd : d ≠ p := ne_of_none e2 hp
  have q1 : upd H' p (.lst []) c = some (.dK (canKvs d a tm)) := by rw [upd_ne npc]; exact e1
  have q2 : upd H' p (.lst []) d = some (.lst (ds.map V.int)) := by rw [upd_ne npd]; exact e2
  have o1 : ∀ b o, b ≠ c → b ≠ d → H b = some o → upd H' p (.lst []) b = some o := fun b u n1 n2 e => by
    rw [upd_ne (ne_of_none (o b u n1 n2 e) hp)]
    exact o b u n1 n2 e
  have q3 : upd H' p (.lst []) p = some (.lst []) := upd_same
  generalize upd H' p (.lst []) = G at q1 q2 q3 o1 ⊢
  refine ⟨.list (ds.map .int), .list [], .lst (SqL.of q2) (dp_ints _ _ ds), .lst (SqL.of q3) .nil, shaped_ints ds, shaped_ints [], _, rfl, ?_⟩
  rw [eqv_nil]
  cases ds with
  | cons x r =>
    refine iteT ⟨_, fun σ' H' h => h, ?_⟩
    have gx : 0 ≤ x := g.1 x (by simp)
    have gr : DeepOk r := ⟨fun y hy => g.1 y (by simp [hy]), by have := g.2; simp at this; omega⟩
    -- rest = can['deep'].pop(0)
    refine ⟨_, rfl, c, _, rfl, get_deep q1, .inl ⟨rfl, _, SqL.of q2⟩, d, _, 0, 0, .int x, rfl, rfl, q2, by decide, by decide, by simp [seqIndex?], rfl, ?_⟩
    have p1 : upd G d (.lst (r.map V.int)) c = some (.dK (canKvs d a tm)) := by rw [upd_ne hcd.symm]; exact q1
    have p2 : upd G d (.lst (r.map V.int)) d = some (.lst (r.map V.int)) := upd_same
    have p3 : ∀ b o, b ≠ c → b ≠ d → H b = some o → upd G d (.lst (r.map V.int)) b = some o := fun b u n1 n2 e => by rw [upd_ne n2]; exact o1 b u n1 n2 e
    have eG : (HO.lst ((List.map V.int (x :: r)).eraseIdx 0)) = .lst (r.map V.int) := rfl
    rw [eG]
    generalize upd G d (.lst (r.map V.int)) = G2 at p1 p2 p3 ⊢
    -- if rest > 0
    refine ⟨_, rfl, _, _, rfl, rfl, _, rfl, ?_⟩
    refine ite2 (fun _ => ?_) (fun _ => ?_)
    · refine ⟨_, rfl, c, _, rfl, get_deep p1, .inl ⟨rfl, _, SqL.of p2⟩, _, rfl, _, rfl, _, _, rfl, rfl, wide_div hm (b := 20) (by omega) (by decide) (by decide), d, _, 0, _, rfl, rfl, p2, ?_, by decide, by decide, ?_⟩
      · rw [List.length_map]
        exact Nat.lt_of_le_of_lt gr.2 (by decide)
      refine ⟨_, rfl, _, rfl, _, _, rfl, rfl, by omega, tm, (x / m) :: r, ?_, upd_same, ?_, k _ _ (back _ ?_) (Int.fmod_nonneg_of_pos _ hm) (Int.fmod_lt_of_pos _ hm)⟩
      · rw [upd_ne hcd.symm]; exact p1
      · refine ⟨fun y hy => ?_, by have := g.2; simpa using this⟩
        rcases List.mem_cons.mp hy with rfl | hy
        · exact Int.ediv_nonneg gx (by omega)
        · exact gr.1 y hy
      · intro b u n1 n2 e
        rw [upd_ne n2]
        exact p3 b u n1 n2 e
    · exact ⟨_, by simp, r, _, rfl, rfl, p1, p2, gr, p3⟩
  | nil =>
    refine iteF ?_
    -- times, cells = can['times'], can['all']
    refine ⟨_, rfl, c, _, rfl, get_times q1, _, rfl, c, _, rfl, get_all q1, _, _, rfl, ?_⟩
    -- can['times'] = times + 1
    refine ⟨_, rfl, _, _, rfl, rfl, _, rfl, c, _, rfl, put_time q1, ?_⟩
    have p1 : upd G c (.dK (canKvs d a (tm + 1))) c = some (.dK (canKvs d a (tm + 1))) := upd_same
    have p2 : upd G c (.dK (canKvs d a (tm + 1))) d = some (.lst (([] : List Int).map V.int)) := by rw [upd_ne hcd]; exact q2
    have p3 : ∀ b o, b ≠ c → b ≠ d → H b = some o → upd G c (.dK (canKvs d a (tm + 1))) b = some o := fun b u n1 n2 e => by rw [upd_ne n1]; exact o1 b u n1 n2 e
    generalize upd G c (.dK (canKvs d a (tm + 1))) = G2 at p1 p2 p3 ⊢
    have pa : SqL K G2 a (cs.map V.int) := SqL.of (p3 a _ nac nad h3)
    have hl : 0 < cs.length := List.length_pos_iff.mpr h4
    have hl0 : ((cs.map V.int).length : Int) ≠ 0 := by rw [List.length_map]; omega
    obtain ⟨z, hz⟩ : ∃ z, atI (cs.map V.int) (tm.fmod ((cs.map V.int).length : Int)) = some (.int z) := by
      have b0 := Int.fmod_nonneg_of_pos tm (b := ((cs.map V.int).length : Int)) (by rw [List.length_map]; omega)
      have b1 := Int.fmod_lt_of_pos tm (b := ((cs.map V.int).length : Int)) (by rw [List.length_map]; omega)
      generalize tm.fmod ((cs.map V.int).length : Int) = j at b0 b1 ⊢
      rw [List.length_map] at b1
      have hj : j.toNat < cs.length := by omega
      have ej : j = ((j.toNat : Nat) : Int) := by omega
      rw [ej]
      exact ⟨cs[j.toNat], atI_nat (by rw [List.getElem?_map, List.getElem?_eq_getElem hj]; rfl)⟩
    -- the three seeds
    have nz1 : (2971215073 : Int) ≠ 0 := by decide
    have nz2 : (63029 : Int) ≠ 0 := by decide
    have big : ∀ y : Int, 0 ≤ y.fmod 2971215073 ∧ y.fmod 2971215073 < 2971215073 := fun y => ⟨Int.fmod_nonneg_of_pos _ (by decide), Int.fmod_lt_of_pos _ (by decide)⟩
    have mulOk : ∀ y z : Int, CMul (y.fmod 2971215073) z := fun y z => .inl (by have := big y; omega)
    refine ⟨_, rfl, _, rfl, _, rfl, a, _, rfl, .inl pa, _, _, rfl, rfl, hl0, a, _, _, _, rfl, rfl, pa, hz, _, _, rfl, rfl, nz1, _, rfl, _, _, rfl, rfl, _, _, rfl, rfl, .inl (by decide), _, _, rfl, rfl, ?_⟩
    refine ⟨_, rfl, _, _, rfl, rfl, nz1, _, rfl, _, _, rfl, rfl, nz2, _, _, rfl, rfl, _, _, rfl, rfl, mulOk _ _, _, _, rfl, rfl, nz1, ?_⟩
    refine ⟨_, rfl, _, rfl, _, _, rfl, rfl, mulOk _ _, _, rfl, _, _, rfl, rfl, .inl (by decide), _, _, rfl, rfl, _, _, rfl, rfl, nz1, _, _, rfl, rfl, mulOk _ _, _, _, rfl, rfl, nz1, ?_⟩
    refine ⟨_, rfl, _, _, rfl, rfl, wide_div (by decide) (b := 20) (by decide) (by decide) (by decide), _, rfl, _, _, rfl, rfl, by omega, tm + 1, [], p1, p2, ⟨fun y hy => (nomatch hy), by decide⟩, ?_⟩
    exact k _ _ (back _ p3) (Int.fmod_nonneg_of_pos _ hm) (Int.fmod_lt_of_pos _ hm)
end
end Lr

namespace Lr
open PySem L2
abbrev sOpened : Stmt := topS 37
abbrev nOpened : List Str := ["_law_script", "_law_cells", "_law_cell"]
theorem scOpened : FnScope nOpened ["_law_script"] (defScope sOpened) :=
  ⟨rfl, rfl, rfl, by decide +kernel, rfl, by decide +kernel, by decide +kernel⟩
abbrev sOne : Stmt := topS 39
abbrev nOne : List Str := ["_law_can", "_law_items"]
theorem scOne : FnScope nOne ["_law_can", "_law_items"] (defScope sOne) :=
  ⟨rfl, rfl, rfl, by decide +kernel, rfl, by decide +kernel, by decide +kernel⟩
section
variable {P : Program} {w : World} {K : PySem.W.Frag} {mg : Str → Option Value} {base : Heap}
def spOne (P : Program) (w : World) : Sp := fun vs H Q _ => ∃ c l xs, vs = [.ref c, .ref l] ∧ Can P w H c ∧ H l = some (.lst xs) ∧ 0 < xs.length ∧ xs.length < 100000 ∧ ∀ v H', Ex H H' → v ∈ xs → Q v H'
theorem ok_one {f : Addr} {fd : FuncData} (F : Fun K "_law_one" "_law_one" sOne f fd) (T : Blt mg) (c_law_roll : Cal P w K mg base 1 "_law_roll" ["_law_can", "_law_many"] (spRoll P w)) :
    FnOk P w K mg base CX0 2 f fd ["_law_can", "_law_items"] (spOne P w) := by
  refine F.ok scOne (fun vs H Q E h => ?_) (fun cdv A outer s H vs Q E hr h => ?_)
  · obtain ⟨c, l, xs, rfl, _⟩ := h
    rfl
  obtain ⟨c, l, xs, rfl, C, hl, h0, h1, k⟩ := h
  refine ⟨_, (pss_one (ps_ret (pe_ix (kx_list (K := K) rfl) (pv 1) (pe_cal c_law_roll (hr.mono (by decide)) rfl (pa_cons (pv 0) (pa_cons (pe_callB (k_len (K := K) rfl) rfl T.len bt_len (pa_cons (pv 1) pa_nil)) pa_nil))) (fun _ _ => rfl)))), ?_⟩
  refine ⟨_, rfl, _, rfl, _, rfl, l, xs, rfl, .inl (SqL.of hl), c, _, rfl, C, by omega, by omega, fun r H' e r0 r1 => ?_⟩
  obtain ⟨v, hv, ha, _⟩ := at_in r0 r1
  exact ⟨l, xs, r, v, rfl, rfl, SqL.of (e _ _ hl), ha, k _ H' e hv⟩
def spOpened (P : Program) (w : World) (K : PySem.W.Frag) : Sp := fun vs H Q _ => ∃ (a : Addr) (ns : List Int), vs = [.ref a] ∧ SqL K H a (ns.map V.int) ∧ ns.length ≤ 63 ∧ ∀ c H', Ex H H' → Can P w H' c → Q (.ref c) H'
theorem ok_opened {f : Addr} {fd : FuncData} (F : Fun K "_law_opened" "_law_opened" sOpened f fd) (T : Blt mg) : FnOk P w K mg base CX0 1 f fd ["_law_script"] (spOpened P w K) := by
  refine F.ok scOpened (fun vs H Q E h => ?_) (fun cdv A outer s H vs Q E hr h => ?_)
  · obtain ⟨a, ns, rfl, _⟩ := h
    rfl
  obtain ⟨a, ns, rfl, hS, hlen, k⟩ := h
  refine ⟨_, pss_shut (pss_cons (ps_setLc (i := 1) (own := [("_law_cell", 2)]) (g := gName 2) (by rfl) scOpened.nd rfl rfl (sw_true rfl rfl rfl (by decide +kernel)) (ki_list (K := K) rfl (pe_slice (ks_list (K := K) rfl) (pv 0) po_none (po_some pe_int))) (blkOk_by (own := [("_law_cell", 2)]) (N := nOpened) (sc := defScope sOpened) (by decide +kernel)) (fun _ _ _ _ _ => (pg_name (i := 2) scOpened.nd rfl (Or.inl rfl))) (fun _ _ _ _ _ => pts_nil) (fun _ _ _ _ _ => (pe_callB call_abs rfl T.abs bt_abs (pa_cons (pv 2) pa_nil))))
    (pss_one (ps_ret (pe_disp (pps_cons pe_str (pe_lc (own := [("_law_cell", 2)]) (g := gName 2)  (by rfl) scOpened.nd (ki_list (K := K) rfl (pv 1)) (blkOk_by (own := [("_law_cell", 2)]) (N := nOpened) (sc := defScope sOpened) (by decide +kernel)) (fun _ _ _ _ _ => (pg_name (i := 2) scOpened.nd rfl (Or.inl rfl))) (fun _ _ _ _ _ => pts_one (pt_cmpR op_ge (pv 2) (pe_op op_pow pe_int pe_int) (nomark _))) (fun _ _ _ _ _ => (pv 2))) (pps_cons pe_str (pe_op op_cat (pv 1) (pe_op op_rep (pe_lst (pa_cons pe_int pa_nil)) (pe_callTy call_int1 rfl T.int bt_int (pa_cons (pe_cmpR (ko_eqD (K := K) rfl hr.units) (pv 1) (pe_lst pa_nil) (nomark _)) pa_nil)))) (pps_cons pe_str pe_int pps_nil))) (by rfl) (by rfl) (fun z => by cases z) (by decide))))), ?_⟩
  have c63 : cutV (ns.map V.int) none (some 63) = ns.map V.int := cut_all (n := 63) (by rw [List.length_map]; exact hlen)
  -- cells = [abs(cell) for cell in script[:63]]
  refine ⟨_, rfl, _, rfl, a, _, rfl, hS, fun p hp => ?_⟩
  rw [c63]
  refine ⟨p, rfl, ⟨_, SqL.of upd_same⟩, fun D hD => made_list (fun _ v _ => ∃ z, v = .int z) hD (SqL.of upd_same) (by rw [List.length_map]; omega) (fun _ _ _ _ _ _ _ m => m) (fun _ => rfl) ?_ ?_⟩
  · intro i x hi H' _ Q1 q
    rw [List.getElem?_map] at hi
    cases e2 : ns[i]? with
    | none => rw [e2] at hi; cases hi
    | some z =>
      rw [e2] at hi
      cases hi
      exact ⟨_, rfl, z, rfl, q _ H' (Evl.Ex.refl _) ⟨_, rfl⟩⟩
  intro ys H1 hy e1 h1 hm
  rw [List.length_map] at hy
  obtain ⟨cs, rfl⟩ : ∃ cs : List Int, ys = cs.map V.int := ints_of fun k v hk => hm k v hk
  rw [List.length_map] at hy
  have nD : H D = none := Evl.fresh_back (Evl.Ex.new hp) hD
  have e0 : Ex H H1 := (Evl.Ex.new hp).trans e1
  -- {'deep': [cell for cell in cells if cell >= 10 ** 18], ..
  intro c hc
  have ncD : D ≠ c := ne_of_none h1 hc
  refine ⟨_, rfl, D, rfl, ⟨_, SqL.of (by rw [upd_ne ncD]; exact h1)⟩, fun d hd => ?_⟩
  have ndc : d ≠ c := by
    intro z
    rw [z, upd_same] at hd
    cases hd
  have nd1 : H1 d = none := by rw [upd_ne ndc] at hd; exact hd
  have nDd : D ≠ d := ne_of_none h1 nd1
  refine lc_list (K := K) (a := D) (xs := cs.map V.int) (fun i G => ∃ ds : List Int, ds.length ≤ i ∧ (∀ x ∈ ds, 0 ≤ x) ∧ G d = some (.lst (ds.map V.int)) ∧ Ex H1 G ∧ G c = some (.dK []) ∧ i ≤ 63)
    ⟨[], Nat.le_refl _, fun _ z => (nomatch z), upd_same, ?_, by rw [upd_ne ndc.symm, upd_same], by decide⟩ (fun i G _ ⟨_, _, _, _, e, _⟩ => SqL.of (e _ _ h1)) ?_ ?_
  · exact (Evl.Ex.new hc).trans (Evl.Ex.new hd)
  · rintro i x G hi ⟨ds, hl, hpos, g1, g2, g3, _⟩
    have hil := (List.getElem?_eq_some_iff.mp hi).1
    rw [List.length_map] at hil
    rw [List.getElem?_map] at hi
    cases e2 : cs[i]? with
    | none => rw [e2] at hi; cases hi
    | some z =>
      rw [e2] at hi
      cases hi
      refine ⟨rfl, _, rfl, _, _, rfl, rfl, ⟨by decide, by decide, by decide⟩, _, _, rfl, rfl, _, rfl, ?_⟩
      refine ite2 (fun hz => ?_) (fun _ => ?_)
      · have hz2 : (10 : Int) ^ (18 : Int).toNat ≤ z := of_decide_eq_true hz
        have hz3 : (0 : Int) ≤ (10 : Int) ^ (18 : Int).toNat := by decide
        refine ⟨_, rfl, _, g1, by rw [List.length_map]; exact Nat.lt_of_le_of_lt (by omega) (by decide : 63 < sizeLine), ds ++ [z], by simp; omega, ?_, by rw [upd_same, List.map_append]; rfl, Evl.Ex.mut g2 nd1, by rw [upd_ne ndc.symm]; exact g3, by omega⟩
        intro x hx
        rcases List.mem_append.mp hx with q | q
        · exact hpos x q
        · simp at q
          omega
      · exact ⟨ds, by omega, hpos, g1, g2, g3, by omega⟩
  rintro G ⟨ds, hl, hpos, g1, g2, g3, hle⟩
  rw [List.length_map] at hl hle
  have gD : G D = some (.lst (cs.map V.int)) := g2 _ _ h1
  -- 'all': cells + [61] * int(cells == [])
  refine ⟨_, rfl, (by show 1 ≤ sizeLine; decide), fun q hq => ⟨_, rfl, (by show 0 ≤ sizeLine; decide), fun r hr2 => ?_⟩⟩
  have nqr : q ≠ r := ne_of_none upd_same hr2
  have hDq : D ≠ q := ne_of_none gD hq
  have gD1 : upd G q (.lst [.int 61]) D = some (.lst (cs.map V.int)) := by rw [upd_ne hDq]; exact gD
  have hDr : D ≠ r := ne_of_none gD1 hr2
  have gD2 : upd (upd G q (.lst [.int 61])) r (.lst []) D = some (.lst (cs.map V.int)) := by rw [upd_ne hDr]; exact gD1
  have gq2 : upd (upd G q (.lst [.int 61])) r (.lst []) q = some (.lst [.int 61]) := by rw [upd_ne nqr]; exact upd_same
  have e2 : Ex G (upd (upd G q (.lst [.int 61])) r (.lst [])) := (Evl.Ex.new hq).trans (Evl.Ex.new hr2)
  have gr2 : upd (upd G q (.lst [.int 61])) r (.lst []) r = some (.lst []) := upd_same
  generalize upd (upd G q (.lst [.int 61])) r (.lst []) = G2 at gD2 gq2 gr2 e2 ⊢
  refine ⟨.list (cs.map .int), .list [], .lst (SqL.of gD2) (dp_ints _ _ cs), .lst (SqL.of gr2) .nil, shaped_ints cs, shaped_ints [], .inr ⟨_, rfl, q, _, _, rfl, rfl, gq2, ?_, ?_, ?_, fun u hu2 => ?_⟩⟩
  · split <;> decide
  · split <;> decide
  · rw [eqv_nil]
    cases cs
    · decide
    · exact Nat.zero_le _
  have nDu : D ≠ u := ne_of_none gD2 hu2
  refine ⟨D, u, _, _, rfl, rfl, by rw [upd_ne nDu]; exact gD2, upd_same, ?_, fun al hal => ?_⟩
  · rw [eqv_nil, List.length_map]
    cases cs with
    | nil => decide
    | cons y r => exact Nat.le_trans (by simp at hl hle ⊢; omega) (by decide : 63 ≤ sizeLine)
  have ecs : cs.map V.int ++ (List.replicate (if PyData.eqv (.list (cs.map .int)) (.list []) = true then (1 : Int) else 0).toNat [V.int 61]).flatten = (if cs.isEmpty then [61] else cs).map V.int := by
    rw [eqv_nil]
    cases cs <;> simp
  rw [ecs]
  have hcs : (if cs.isEmpty then [61] else cs) ≠ [] := by
    cases cs <;> simp
  have hcl : (if cs.isEmpty then [61] else cs).length ≤ 64 := by
    cases cs with
    | nil => decide
    | cons y r => simp at hy ⊢; omega
  generalize (if cs.isEmpty then [61] else cs) = ws at hcs hcl ⊢
  -- the dict's own place: nothing was written meanwhile
  have c2 : G2 c = some (.dK []) := e2 _ _ g3
  have ncu : c ≠ u := ne_of_none c2 hu2
  have d2 : G2 d = some (.lst (ds.map V.int)) := e2 _ _ g1
  have ndu : d ≠ u := ne_of_none d2 hu2
  have ncal : c ≠ al := ne_of_none (by rw [upd_ne ncu]; exact c2) hal
  have ndal : d ≠ al := ne_of_none (by rw [upd_ne ndu]; exact d2) hal
  have c3 : upd (upd G2 u (.lst (List.replicate (if PyData.eqv (.list (cs.map .int)) (.list []) = true then (1 : Int) else 0).toNat [V.int 61]).flatten)) al (.lst (ws.map V.int)) c = some (.dK []) := by
    rw [upd_ne ncal, upd_ne ncu]
    exact c2
  have d3 : upd (upd G2 u (.lst (List.replicate (if PyData.eqv (.list (cs.map .int)) (.list []) = true then (1 : Int) else 0).toNat [V.int 61]).flatten)) al (.lst (ws.map V.int)) d = some (.lst (ds.map V.int)) := by
    rw [upd_ne ndal, upd_ne ndu]
    exact d2
  have e3 : Ex H1 (upd (upd G2 u (.lst (List.replicate (if PyData.eqv (.list (cs.map .int)) (.list []) = true then (1 : Int) else 0).toNat [V.int 61]).flatten)) al (.lst (ws.map V.int))) :=
    ((g2.trans e2).trans (Evl.Ex.new hu2)).trans (Evl.Ex.new hal)
  have a3 : upd (upd G2 u (.lst (List.replicate (if PyData.eqv (.list (cs.map .int)) (.list []) = true then (1 : Int) else 0).toNat [V.int 61]).flatten)) al (.lst (ws.map V.int)) al = some (.lst (ws.map V.int)) := upd_same
  generalize upd (upd G2 u (.lst (List.replicate (if PyData.eqv (.list (cs.map .int)) (.list []) = true then (1 : Int) else 0).toNat [V.int 61]).flatten)) al (.lst (ws.map V.int)) = G3 at c3 d3 e3 a3 ⊢
  refine ⟨c3, canKvs d al 0, rfl, (by show 3 ≤ 15; decide), c, d, al, 0, ds, rfl, by rw [upd_same, merge_can], by rw [upd_ne ndc]; exact d3, ⟨hpos, by omega⟩, ndc, ?_⟩
  have nc1 : H1 c = none := hc
  have e4 : Ex H1 (upd (upd (upd G3 c (.dK (mergeK [] (canKvs d al 0)))) c (.ext (phiC P w c d al))) d (.ext (phiD P w d))) := Evl.Ex.mut (Evl.Ex.mut (Evl.Ex.mut e3 nc1) nc1) nd1
  refine k c _ (e0.trans e4) ⟨d, al, ws, by rw [upd_ne ndc.symm]; exact upd_same, upd_same, ?_, hcs, hcl, ndc⟩
  rw [upd_ne ndal.symm, upd_ne ncal.symm, upd_ne ncal.symm]
  exact a3
end
end Lr

namespace Lr
open PySem L2
/-! ### what is known of data (B) while other things of the heap (H) may change: both grow, what is new in B is new in H -/
structure Grow (B H B' H' : Hp) : Prop where
  bb : Ex B B'
  bh : Ex B' H'
  hh : Ex H H'
  sep : ∀ a o, B' a = some o → B a = some o ∨ H a = none
theorem Grow.free {B H B' H' : Hp} (g : Grow B H B' H') {l : Addr} {o : HO} (h1 : B l = none) (h2 : H l = some o) : B' l = none := by
  cases q : B' l with
  | none => rfl
  | some u =>
    rcases g.sep l u q with z | z
    · rw [h1] at z; cases z
    · rw [h2] at z; cases z
def mix (B H H' : Hp) : Hp := fun a => if H a = none then H' a else B a
theorem mix_new {B H H' : Hp} {p : Addr} {o : HO} (h : H p = none) (h2 : H' p = some o) : mix B H H' p = some o := by
  unfold mix
  rw [if_pos h]
  exact h2
theorem mix_grow {B H H' : Hp} (b : Ex B H) (e : Ex H H') : Grow B H (mix B H H') H' := by
  refine ⟨fun a o h => ?_, fun a o h => ?_, e, fun a o h => ?_⟩
  · unfold mix
    rw [if_neg (by rw [b a o h]; exact fun z => nomatch z)]
    exact h
  · unfold mix at h
    by_cases q : H a = none
    · rw [if_pos q] at h; exact h
    · rw [if_neg q] at h; exact e a o (b a o h)
  · unfold mix at h
    by_cases q : H a = none
    · exact .inr q
    · rw [if_neg q] at h; exact .inl h
def oddD : List PyData := [.none, .bool true, .bool false, .int (-1), .int 0, .int 1, .int 6, .int 7, .int (10 ^ 39), .str "", .str "a", .str "ap", .str "0", .tuple [], .list [], .dict [], .tuple [.int 0], .list [.int 0], .tuple [.bool true], .tuple [.int 0, .int 1],
  .tuple [.str "a", .str "p"], .tuple [.int 1, .int 0], .str "none", .dict [(.str "a", .int 0)], .tuple [.tuple [.int 0], .tuple [.int 0]]]
theorem merge_one : mergeK [] [((Sum.inr "a" : Key), V.int 0)] = [((Sum.inr "a" : Key), V.int 0)] := by simp [mergeK, putK]
abbrev sOdd : Stmt := topS 40
abbrev nOdd : List Str := ["_law_can", "_law_items"]
theorem scOdd : FnScope nOdd ["_law_can"] (defScope sOdd) :=
  ⟨rfl, rfl, rfl, by decide +kernel, rfl, by decide +kernel, by decide +kernel⟩
section
variable {P : Program} {w : World} {K : PySem.W.Frag} {mg : Str → Option Value} {base : Heap}
def spOdd (P : Program) (w : World) : Sp := fun vs H Q _ => ∃ (c : Addr) (B : Hp), vs = [.ref c] ∧ Can P w H c ∧ Ex B H ∧ ∀ v d B' H', Grow B H B' H' → Dv B' v d → d ∈ oddD → Q v H'
theorem ok_odd {f : Addr} {fd : FuncData} (F : Fun K "_law_odd" "_law_odd" sOdd f fd) (T : Blt mg) (c_law_one : Cal P w K mg base 2 "_law_one" ["_law_can", "_law_items"] (spOne P w)) :
    FnOk P w K mg base CX0 3 f fd ["_law_can"] (spOdd P w) := by
  refine F.ok scOdd (fun vs H Q E h => ?_) (fun cdv A outer s H vs Q E hr h => ?_)
  · obtain ⟨c, B, rfl, _⟩ := h
    rfl
  obtain ⟨c, B, rfl, C, hB, k⟩ := h
  refine ⟨_, (pss_cons (ps_set (i := 1) scOdd.nd rfl (Or.inl rfl) (pe_lst (pa_cons pe_non (pa_cons pe_bl (pa_cons pe_bl (pa_cons (pe_un un_neg pe_int) (pa_cons pe_int (pa_cons pe_int (pa_cons pe_int (pa_cons pe_int (pa_cons (pe_op op_pow pe_int pe_int) (pa_cons pe_str (pa_cons pe_str (pa_cons pe_str (pa_cons pe_str (pa_cons (pe_tup pa_nil) (pa_cons (pe_lst pa_nil) (pa_cons pe_dnewK (pa_cons (pe_tup (pa_cons pe_int pa_nil)) (pa_cons (pe_lst (pa_cons pe_int pa_nil)) (pa_cons (pe_tup (pa_cons pe_bl pa_nil)) (pa_cons (pe_tup (pa_cons pe_int (pa_cons pe_int pa_nil))) pa_nil))))))))))))))))))))))
    (pss_one (ps_ret (pe_cal c_law_one (hr.mono (by decide)) rfl (pa_cons (pv 0) (pa_cons (pe_op op_cat (pv 1) (pe_lst (pa_cons (pe_tup (pa_cons pe_str (pa_cons pe_str pa_nil))) (pa_cons (pe_tup (pa_cons pe_int (pa_cons pe_int pa_nil))) (pa_cons pe_str (pa_cons (pe_disp (pps_cons pe_str pe_int pps_nil) (by rfl) (by rfl) (fun z => by cases z) (by decide)) (pa_cons (pe_tup (pa_cons (pe_tup (pa_cons pe_int pa_nil)) (pa_cons (pe_tup (pa_cons pe_int pa_nil)) pa_nil))) pa_nil))))))) pa_nil)))))), ?_⟩
  have z0 : 0 ≤ sizeLine := by decide
  have z1 : 1 ≤ sizeLine := by decide
  have z2 : 2 ≤ sizeLine := by decide
  refine ⟨1, rfl, _, _, rfl, rfl, ⟨by decide, by decide, by decide⟩, z0, fun p1 h1 => ⟨z0, fun p2 h2 => fun p3 h3 => ⟨z1, fun p4 h4 => ⟨z1, fun p5 h5 => ⟨z1, fun p6 h6 => ⟨z2, fun p7 h7 => ⟨(by show 20 ≤ sizeLine; decide), fun l1 hl1 => ?_⟩⟩⟩⟩⟩⟩⟩
  have e1 : Ex H (upd H p1 (.tup [])) := Evl.Ex.new h1
  have e2 := e1.trans (Evl.Ex.new h2 (o := .lst []))
  have e3 := e2.trans (Evl.Ex.new h3 (o := .dK []))
  have e4 := e3.trans (Evl.Ex.new h4 (o := .tup [.int 0]))
  have e5 := e4.trans (Evl.Ex.new h5 (o := .lst [.int 0]))
  have e6 := e5.trans (Evl.Ex.new h6 (o := .tup [.bl true]))
  have e7 := e6.trans (Evl.Ex.new h7 (o := .tup [.int 0, .int 1]))
  have n1 : H p1 = none := h1
  have n2 : H p2 = none := Evl.fresh_back e1 h2
  have n3 : H p3 = none := Evl.fresh_back e2 h3
  have n4 : H p4 = none := Evl.fresh_back e3 h4
  have n5 : H p5 = none := Evl.fresh_back e4 h5
  have n6 : H p6 = none := Evl.fresh_back e5 h6
  have n7 : H p7 = none := Evl.fresh_back e6 h7
  have f7 := Evl.Ex.new h7 (o := .tup [.int 0, .int 1])
  have f6 := (Evl.Ex.new h6 (o := .tup [.bl true])).trans f7
  have f5 := (Evl.Ex.new h5 (o := .lst [.int 0])).trans f6
  have f4 := (Evl.Ex.new h4 (o := .tup [.int 0])).trans f5
  have f3 := (Evl.Ex.new h3 (o := .dK [])).trans f4
  have f2 := (Evl.Ex.new h2 (o := .lst [])).trans f3
  have a1 := f2 _ _ (upd_same (H := H) (a := p1) (o := .tup []))
  have a2 := f3 _ _ (upd_same (a := p2) (o := .lst []))
  have a3 := f4 _ _ (upd_same (a := p3) (o := .dK []))
  have a4 := f5 _ _ (upd_same (a := p4) (o := .tup [.int 0]))
  have a5 := f6 _ _ (upd_same (a := p5) (o := .lst [.int 0]))
  have a6 := f7 _ _ (upd_same (a := p6) (o := .tup [.bl true]))
  have a7 : upd (upd (upd (upd (upd (upd (upd H p1 (.tup [])) p2 (.lst [])) p3 (.dK [])) p4 (.tup [.int 0])) p5 (.lst [.int 0])) p6 (.tup [.bl true])) p7 (.tup [.int 0, .int 1]) p7 = some (.tup [.int 0, .int 1]) := upd_same
  generalize upd (upd (upd (upd (upd (upd (upd H p1 (.tup [])) p2 (.lst [])) p3 (.dK [])) p4 (.tup [.int 0])) p5 (.lst [.int 0])) p6 (.tup [.bl true])) p7 (.tup [.int 0, .int 1]) = G1 at *
  -- the second list
  refine ⟨_, rfl, _, rfl, z2, fun q1 g1 => ⟨z2, fun q2 g2 => fun q3 g3 => ⟨upd_same, [((Sum.inr "a" : Key), V.int 0)], rfl, (by show 1 ≤ 15; decide), z1, fun q4 g4 => ⟨z1, fun q5 g5 => ⟨z2, fun q6 g6 => ⟨(by show 5 ≤ sizeLine; decide), fun l2 hl2 => ?_⟩⟩⟩⟩⟩⟩
  rw [merge_one] at *
  generalize hL : [V.non, V.bl true, V.bl false, V.int (-1), V.int 0, V.int 1, V.int 6, V.int 7, V.int (10 ^ (39 : Int).toNat), V.str "", V.str "a", V.str "ap", V.str "0", V.ref p1, V.ref p2, V.ref p3, V.ref p4, V.ref p5, V.ref p6, V.ref p7] = L1 at *
  have x0 : Ex G1 (upd G1 l1 (.lst L1)) := Evl.Ex.new hl1
  have al : upd G1 l1 (.lst L1) l1 = some (.lst L1) := upd_same
  generalize upd G1 l1 (.lst L1) = G2 at *
  have x1 : Ex G2 (upd G2 q1 (.tup [.str "a", .str "p"])) := Evl.Ex.new g1
  have x2 := x1.trans (Evl.Ex.new g2 (o := .tup [.int 1, .int 0]))
  have y3 : Ex (upd (upd G2 q1 (.tup [.str "a", .str "p"])) q2 (.tup [.int 1, .int 0])) (upd (upd (upd (upd G2 q1 (.tup [.str "a", .str "p"])) q2 (.tup [.int 1, .int 0])) q3 (.dK [])) q3 (.dK [((Sum.inr "a" : Key), V.int 0)])) := Evl.Ex.mut (Evl.Ex.new g3) g3
  have x3 := x2.trans y3
  have x4 := x3.trans (Evl.Ex.new g4 (o := .tup [.int 0]))
  have x5 := x4.trans (Evl.Ex.new g5 (o := .tup [.int 0]))
  have x6 := x5.trans (Evl.Ex.new g6 (o := .tup [.ref q4, .ref q5]))
  have t0 := e7.trans x0
  have m1 : H q1 = none := Evl.fresh_back t0 g1
  have m2 : H q2 = none := Evl.fresh_back (t0.trans x1) g2
  have m3 : H q3 = none := Evl.fresh_back (t0.trans x2) g3
  have m4 : H q4 = none := Evl.fresh_back (t0.trans x3) g4
  have m5 : H q5 = none := Evl.fresh_back (t0.trans x4) g5
  have m6 : H q6 = none := Evl.fresh_back (t0.trans x5) g6
  have w6 := Evl.Ex.new g6 (o := .tup [.ref q4, .ref q5])
  have w5 := (Evl.Ex.new g5 (o := .tup [.int 0])).trans w6
  have w4 := (Evl.Ex.new g4 (o := .tup [.int 0])).trans w5
  have w3 := y3.trans w4
  have w2 := (Evl.Ex.new g2 (o := .tup [.int 1, .int 0])).trans w3
  have b1 := w2 _ _ (upd_same (H := G2) (a := q1) (o := .tup [.str "a", .str "p"]))
  have b2 := w3 _ _ (upd_same (a := q2) (o := .tup [.int 1, .int 0]))
  have b3 := w4 _ _ (upd_same (a := q3) (o := .dK [((Sum.inr "a" : Key), V.int 0)]))
  have b4 := w5 _ _ (upd_same (a := q4) (o := .tup [.int 0]))
  have b5 := w6 _ _ (upd_same (a := q5) (o := .tup [.int 0]))
  have b6 : upd (upd (upd (upd (upd (upd (upd G2 q1 (.tup [.str "a", .str "p"])) q2 (.tup [.int 1, .int 0])) q3 (.dK [])) q3 (.dK [((Sum.inr "a" : Key), V.int 0)])) q4 (.tup [.int 0])) q5 (.tup [.int 0])) q6 (.tup [.ref q4, .ref q5]) q6 = some (.tup [.ref q4, .ref q5]) := upd_same
  generalize upd (upd (upd (upd (upd (upd (upd G2 q1 (.tup [.str "a", .str "p"])) q2 (.tup [.int 1, .int 0])) q3 (.dK [])) q3 (.dK [((Sum.inr "a" : Key), V.int 0)])) q4 (.tup [.int 0])) q5 (.tup [.int 0])) q6 (.tup [.ref q4, .ref q5]) = G3 at *
  have ll : L1.length = 20 := by rw [← hL]; rfl
  have nl : l1 ≠ l2 := ne_of_none (x6 _ _ al) hl2
  refine ⟨l1, l2, L1, _, rfl, rfl, by rw [upd_ne nl]; exact x6 _ _ al, upd_same, by rw [ll]; exact (by decide : 20 + 5 ≤ sizeLine), fun l3 hl3 => ?_⟩
  have x7 : Ex G3 (upd (upd G3 l2 (.lst [V.ref q1, V.ref q2, V.str "none", V.ref q3, V.ref q6])) l3 (.lst (L1 ++ [V.ref q1, V.ref q2, V.str "none", V.ref q3, V.ref q6]))) := (Evl.Ex.new hl2).trans (Evl.Ex.new hl3)
  refine ⟨c, l3, _, rfl, C.mono ((t0.trans x6).trans x7), upd_same, by simp, by simp [ll], fun v H' e hv => ?_⟩
  have eG : Ex G3 H' := x7.trans e
  have e1G : Ex G1 H' := (x0.trans x6).trans eG
  have all : DvAll (mix B H H') (L1 ++ [V.ref q1, V.ref q2, V.str "none", V.ref q3, V.ref q6]) oddD := by
    rw [← hL]
    have t {p : Addr} {o : HO} (n : H p = none) (hp : H' p = some o) : mix B H H' p = some o := mix_new n hp
    exact .cons .non (.cons (.bl _) (.cons (.bl _) (.cons (.int _) (.cons (.int _) (.cons (.int _) (.cons (.int _) (.cons (.int _) (.cons (.int _) (.cons (.str _) (.cons (.str _) (.cons (.str _) (.cons (.str _)
      (.cons (.tup (t n1 (e1G _ _ a1)) .nil) (.cons (.lst (t n2 (e1G _ _ a2)) .nil) (.cons (.dic (t n3 (e1G _ _ a3)) .nil) (.cons (.tup (t n4 (e1G _ _ a4)) (.cons (.int _) .nil)) (.cons (.lst (t n5 (e1G _ _ a5)) (.cons (.int _) .nil))
      (.cons (.tup (t n6 (e1G _ _ a6)) (.cons (.bl _) .nil)) (.cons (.tup (t n7 (e1G _ _ a7)) (.cons (.int _) (.cons (.int _) .nil)))
      (.cons (.tup (t m1 (eG _ _ b1)) (.cons (.str _) (.cons (.str _) .nil))) (.cons (.tup (t m2 (eG _ _ b2)) (.cons (.int _) (.cons (.int _) .nil))) (.cons (.str _) (.cons (.dic (t m3 (eG _ _ b3)) (.cons (k := Sum.inr "a") (.int _) .nil))
      (.cons (.tup (t m6 (eG _ _ b6)) (.cons (.tup (t m4 (eG _ _ b4)) (.cons (.int _) .nil)) (.cons (.tup (t m5 (eG _ _ b5)) (.cons (.int _) .nil)) .nil))) .nil))))))))))))))))))))))))
  obtain ⟨i, hi⟩ := List.mem_iff_getElem?.mp hv
  obtain ⟨d, hd, hdv⟩ := all.get hi
  exact k v d _ H' (mix_grow hB (((t0.trans x6).trans x7).trans e)) hdv (List.mem_of_getElem? hd)
end
end Lr

namespace Lr
open PySem L2
abbrev siAbsent : Stmt := inClass (topS 2) 0
theorem sciAbsent : FnScope ["self", "car"] ["self", "car"] (defScope siAbsent) := ⟨rfl, rfl, rfl, by decide +kernel, rfl, by decide +kernel, by decide +kernel⟩
theorem ok_iAbsent {P : Program} {w : World} {K : PySem.W.Frag} {mg : Str → Option Value} {base : Heap} {f : Addr} {fd : FuncData} (F : Fun K "__init__" "Absent.__init__" siAbsent f fd) : FnOk P w K mg base CX0 1 f fd ["self", "car"] (spInit K "car") := by
  refine F.ok sciAbsent (fun vs H Q E h => ?_) (fun cdv A outer s H vs Q E hr h => ?_)
  · obtain ⟨a, C, y, rfl, _⟩ := h
    rfl
  obtain ⟨a, C, y, rfl, T, hno, ha, k⟩ := h
  refine ⟨_, (pss_one (ps_ost (pv 0) (pv 1))), ?_⟩
  exact ⟨_, rfl, _, rfl, a, C, rfl, T, hno, .inl ⟨ha, fun d hd nd => k d hd nd⟩⟩
abbrev siBadCount : Stmt := inClass (topS 4) 0
theorem sciBadCount : FnScope ["self", "index"] ["self", "index"] (defScope siBadCount) := ⟨rfl, rfl, rfl, by decide +kernel, rfl, by decide +kernel, by decide +kernel⟩
theorem ok_iBadCount {P : Program} {w : World} {K : PySem.W.Frag} {mg : Str → Option Value} {base : Heap} {f : Addr} {fd : FuncData} (F : Fun K "__init__" "BadCount.__init__" siBadCount f fd) : FnOk P w K mg base CX0 1 f fd ["self", "index"] (spInit K "index") := by
  refine F.ok sciBadCount (fun vs H Q E h => ?_) (fun cdv A outer s H vs Q E hr h => ?_)
  · obtain ⟨a, C, y, rfl, _⟩ := h
    rfl
  obtain ⟨a, C, y, rfl, T, hno, ha, k⟩ := h
  refine ⟨_, (pss_one (ps_ost (pv 0) (pv 1))), ?_⟩
  exact ⟨_, rfl, _, rfl, a, C, rfl, T, hno, .inl ⟨ha, fun d hd nd => k d hd nd⟩⟩
abbrev siBadDay : Stmt := inClass (topS 5) 0
theorem sciBadDay : FnScope ["self", "index"] ["self", "index"] (defScope siBadDay) := ⟨rfl, rfl, rfl, by decide +kernel, rfl, by decide +kernel, by decide +kernel⟩
theorem ok_iBadDay {P : Program} {w : World} {K : PySem.W.Frag} {mg : Str → Option Value} {base : Heap} {f : Addr} {fd : FuncData} (F : Fun K "__init__" "BadDay.__init__" siBadDay f fd) : FnOk P w K mg base CX0 1 f fd ["self", "index"] (spInit K "index") := by
  refine F.ok sciBadDay (fun vs H Q E h => ?_) (fun cdv A outer s H vs Q E hr h => ?_)
  · obtain ⟨a, C, y, rfl, _⟩ := h
    rfl
  obtain ⟨a, C, y, rfl, T, hno, ha, k⟩ := h
  refine ⟨_, (pss_one (ps_ost (pv 0) (pv 1))), ?_⟩
  exact ⟨_, rfl, _, rfl, a, C, rfl, T, hno, .inl ⟨ha, fun d hd nd => k d hd nd⟩⟩
abbrev siBadRow : Stmt := inClass (topS 6) 0
theorem sciBadRow : FnScope ["self", "error"] ["self", "error"] (defScope siBadRow) := ⟨rfl, rfl, rfl, by decide +kernel, rfl, by decide +kernel, by decide +kernel⟩
theorem ok_iBadRow {P : Program} {w : World} {K : PySem.W.Frag} {mg : Str → Option Value} {base : Heap} {f : Addr} {fd : FuncData} (F : Fun K "__init__" "BadRow.__init__" siBadRow f fd) : FnOk P w K mg base CX0 1 f fd ["self", "error"] (spInit K "error") := by
  refine F.ok sciBadRow (fun vs H Q E h => ?_) (fun cdv A outer s H vs Q E hr h => ?_)
  · obtain ⟨a, C, y, rfl, _⟩ := h
    rfl
  obtain ⟨a, C, y, rfl, T, hno, ha, k⟩ := h
  refine ⟨_, (pss_one (ps_ost (pv 0) (pv 1))), ?_⟩
  exact ⟨_, rfl, _, rfl, a, C, rfl, T, hno, .inl ⟨ha, fun d hd nd => k d hd nd⟩⟩
abbrev siBadRule : Stmt := inClass (topS 7) 0
theorem sciBadRule : FnScope ["self", "error"] ["self", "error"] (defScope siBadRule) := ⟨rfl, rfl, rfl, by decide +kernel, rfl, by decide +kernel, by decide +kernel⟩
theorem ok_iBadRule {P : Program} {w : World} {K : PySem.W.Frag} {mg : Str → Option Value} {base : Heap} {f : Addr} {fd : FuncData} (F : Fun K "__init__" "BadRule.__init__" siBadRule f fd) : FnOk P w K mg base CX0 1 f fd ["self", "error"] (spInit K "error") := by
  refine F.ok sciBadRule (fun vs H Q E h => ?_) (fun cdv A outer s H vs Q E hr h => ?_)
  · obtain ⟨a, C, y, rfl, _⟩ := h
    rfl
  obtain ⟨a, C, y, rfl, T, hno, ha, k⟩ := h
  refine ⟨_, (pss_one (ps_ost (pv 0) (pv 1))), ?_⟩
  exact ⟨_, rfl, _, rfl, a, C, rfl, T, hno, .inl ⟨ha, fun d hd nd => k d hd nd⟩⟩
abbrev siBadText : Stmt := inClass (topS 8) 0
theorem sciBadText : FnScope ["self", "index"] ["self", "index"] (defScope siBadText) := ⟨rfl, rfl, rfl, by decide +kernel, rfl, by decide +kernel, by decide +kernel⟩
theorem ok_iBadText {P : Program} {w : World} {K : PySem.W.Frag} {mg : Str → Option Value} {base : Heap} {f : Addr} {fd : FuncData} (F : Fun K "__init__" "BadText.__init__" siBadText f fd) : FnOk P w K mg base CX0 1 f fd ["self", "index"] (spInit K "index") := by
  refine F.ok sciBadText (fun vs H Q E h => ?_) (fun cdv A outer s H vs Q E hr h => ?_)
  · obtain ⟨a, C, y, rfl, _⟩ := h
    rfl
  obtain ⟨a, C, y, rfl, T, hno, ha, k⟩ := h
  refine ⟨_, (pss_one (ps_ost (pv 0) (pv 1))), ?_⟩
  exact ⟨_, rfl, _, rfl, a, C, rfl, T, hno, .inl ⟨ha, fun d hd nd => k d hd nd⟩⟩
abbrev siBadWish : Stmt := inClass (topS 9) 0
theorem sciBadWish : FnScope ["self", "index"] ["self", "index"] (defScope siBadWish) := ⟨rfl, rfl, rfl, by decide +kernel, rfl, by decide +kernel, by decide +kernel⟩
theorem ok_iBadWish {P : Program} {w : World} {K : PySem.W.Frag} {mg : Str → Option Value} {base : Heap} {f : Addr} {fd : FuncData} (F : Fun K "__init__" "BadWish.__init__" siBadWish f fd) : FnOk P w K mg base CX0 1 f fd ["self", "index"] (spInit K "index") := by
  refine F.ok sciBadWish (fun vs H Q E h => ?_) (fun cdv A outer s H vs Q E hr h => ?_)
  · obtain ⟨a, C, y, rfl, _⟩ := h
    rfl
  obtain ⟨a, C, y, rfl, T, hno, ha, k⟩ := h
  refine ⟨_, (pss_one (ps_ost (pv 0) (pv 1))), ?_⟩
  exact ⟨_, rfl, _, rfl, a, C, rfl, T, hno, .inl ⟨ha, fun d hd nd => k d hd nd⟩⟩
abbrev siBadWord : Stmt := inClass (topS 10) 0
theorem sciBadWord : FnScope ["self", "error"] ["self", "error"] (defScope siBadWord) := ⟨rfl, rfl, rfl, by decide +kernel, rfl, by decide +kernel, by decide +kernel⟩
theorem ok_iBadWord {P : Program} {w : World} {K : PySem.W.Frag} {mg : Str → Option Value} {base : Heap} {f : Addr} {fd : FuncData} (F : Fun K "__init__" "BadWord.__init__" siBadWord f fd) : FnOk P w K mg base CX0 1 f fd ["self", "error"] (spInit K "error") := by
  refine F.ok sciBadWord (fun vs H Q E h => ?_) (fun cdv A outer s H vs Q E hr h => ?_)
  · obtain ⟨a, C, y, rfl, _⟩ := h
    rfl
  obtain ⟨a, C, y, rfl, T, hno, ha, k⟩ := h
  refine ⟨_, (pss_one (ps_ost (pv 0) (pv 1))), ?_⟩
  exact ⟨_, rfl, _, rfl, a, C, rfl, T, hno, .inl ⟨ha, fun d hd nd => k d hd nd⟩⟩
abbrev siNoCar : Stmt := inClass (topS 14) 0
theorem sciNoCar : FnScope ["self", "value"] ["self", "value"] (defScope siNoCar) := ⟨rfl, rfl, rfl, by decide +kernel, rfl, by decide +kernel, by decide +kernel⟩
theorem ok_iNoCar {P : Program} {w : World} {K : PySem.W.Frag} {mg : Str → Option Value} {base : Heap} {f : Addr} {fd : FuncData} (F : Fun K "__init__" "NoCar.__init__" siNoCar f fd) : FnOk P w K mg base CX0 1 f fd ["self", "value"] (spInit K "value") := by
  refine F.ok sciNoCar (fun vs H Q E h => ?_) (fun cdv A outer s H vs Q E hr h => ?_)
  · obtain ⟨a, C, y, rfl, _⟩ := h
    rfl
  obtain ⟨a, C, y, rfl, T, hno, ha, k⟩ := h
  refine ⟨_, (pss_one (ps_ost (pv 0) (pv 1))), ?_⟩
  exact ⟨_, rfl, _, rfl, a, C, rfl, T, hno, .inl ⟨ha, fun d hd nd => k d hd nd⟩⟩
abbrev siNoCount : Stmt := inClass (topS 15) 0
theorem sciNoCount : FnScope ["self", "value"] ["self", "value"] (defScope siNoCount) := ⟨rfl, rfl, rfl, by decide +kernel, rfl, by decide +kernel, by decide +kernel⟩
theorem ok_iNoCount {P : Program} {w : World} {K : PySem.W.Frag} {mg : Str → Option Value} {base : Heap} {f : Addr} {fd : FuncData} (F : Fun K "__init__" "NoCount.__init__" siNoCount f fd) : FnOk P w K mg base CX0 1 f fd ["self", "value"] (spInit K "value") := by
  refine F.ok sciNoCount (fun vs H Q E h => ?_) (fun cdv A outer s H vs Q E hr h => ?_)
  · obtain ⟨a, C, y, rfl, _⟩ := h
    rfl
  obtain ⟨a, C, y, rfl, T, hno, ha, k⟩ := h
  refine ⟨_, (pss_one (ps_ost (pv 0) (pv 1))), ?_⟩
  exact ⟨_, rfl, _, rfl, a, C, rfl, T, hno, .inl ⟨ha, fun d hd nd => k d hd nd⟩⟩
abbrev siNoIndex : Stmt := inClass (topS 17) 0
theorem sciNoIndex : FnScope ["self", "index"] ["self", "index"] (defScope siNoIndex) := ⟨rfl, rfl, rfl, by decide +kernel, rfl, by decide +kernel, by decide +kernel⟩
theorem ok_iNoIndex {P : Program} {w : World} {K : PySem.W.Frag} {mg : Str → Option Value} {base : Heap} {f : Addr} {fd : FuncData} (F : Fun K "__init__" "NoIndex.__init__" siNoIndex f fd) : FnOk P w K mg base CX0 1 f fd ["self", "index"] (spInit K "index") := by
  refine F.ok sciNoIndex (fun vs H Q E h => ?_) (fun cdv A outer s H vs Q E hr h => ?_)
  · obtain ⟨a, C, y, rfl, _⟩ := h
    rfl
  obtain ⟨a, C, y, rfl, T, hno, ha, k⟩ := h
  refine ⟨_, (pss_one (ps_ost (pv 0) (pv 1))), ?_⟩
  exact ⟨_, rfl, _, rfl, a, C, rfl, T, hno, .inl ⟨ha, fun d hd nd => k d hd nd⟩⟩
abbrev siNoLane : Stmt := inClass (topS 18) 0
theorem sciNoLane : FnScope ["self", "value"] ["self", "value"] (defScope siNoLane) := ⟨rfl, rfl, rfl, by decide +kernel, rfl, by decide +kernel, by decide +kernel⟩
theorem ok_iNoLane {P : Program} {w : World} {K : PySem.W.Frag} {mg : Str → Option Value} {base : Heap} {f : Addr} {fd : FuncData} (F : Fun K "__init__" "NoLane.__init__" siNoLane f fd) : FnOk P w K mg base CX0 1 f fd ["self", "value"] (spInit K "value") := by
  refine F.ok sciNoLane (fun vs H Q E h => ?_) (fun cdv A outer s H vs Q E hr h => ?_)
  · obtain ⟨a, C, y, rfl, _⟩ := h
    rfl
  obtain ⟨a, C, y, rfl, T, hno, ha, k⟩ := h
  refine ⟨_, (pss_one (ps_ost (pv 0) (pv 1))), ?_⟩
  exact ⟨_, rfl, _, rfl, a, C, rfl, T, hno, .inl ⟨ha, fun d hd nd => k d hd nd⟩⟩
abbrev siNoPair : Stmt := inClass (topS 20) 0
theorem sciNoPair : FnScope ["self", "value"] ["self", "value"] (defScope siNoPair) := ⟨rfl, rfl, rfl, by decide +kernel, rfl, by decide +kernel, by decide +kernel⟩
theorem ok_iNoPair {P : Program} {w : World} {K : PySem.W.Frag} {mg : Str → Option Value} {base : Heap} {f : Addr} {fd : FuncData} (F : Fun K "__init__" "NoPair.__init__" siNoPair f fd) : FnOk P w K mg base CX0 1 f fd ["self", "value"] (spInit K "value") := by
  refine F.ok sciNoPair (fun vs H Q E h => ?_) (fun cdv A outer s H vs Q E hr h => ?_)
  · obtain ⟨a, C, y, rfl, _⟩ := h
    rfl
  obtain ⟨a, C, y, rfl, T, hno, ha, k⟩ := h
  refine ⟨_, (pss_one (ps_ost (pv 0) (pv 1))), ?_⟩
  exact ⟨_, rfl, _, rfl, a, C, rfl, T, hno, .inl ⟨ha, fun d hd nd => k d hd nd⟩⟩
abbrev siNoVersion : Stmt := inClass (topS 23) 0
theorem sciNoVersion : FnScope ["self", "version"] ["self", "version"] (defScope siNoVersion) := ⟨rfl, rfl, rfl, by decide +kernel, rfl, by decide +kernel, by decide +kernel⟩
theorem ok_iNoVersion {P : Program} {w : World} {K : PySem.W.Frag} {mg : Str → Option Value} {base : Heap} {f : Addr} {fd : FuncData} (F : Fun K "__init__" "NoVersion.__init__" siNoVersion f fd) : FnOk P w K mg base CX0 1 f fd ["self", "version"] (spInit K "version") := by
  refine F.ok sciNoVersion (fun vs H Q E h => ?_) (fun cdv A outer s H vs Q E hr h => ?_)
  · obtain ⟨a, C, y, rfl, _⟩ := h
    rfl
  obtain ⟨a, C, y, rfl, T, hno, ha, k⟩ := h
  refine ⟨_, (pss_one (ps_ost (pv 0) (pv 1))), ?_⟩
  exact ⟨_, rfl, _, rfl, a, C, rfl, T, hno, .inl ⟨ha, fun d hd nd => k d hd nd⟩⟩
abbrev siOtherLanes : Stmt := inClass (topS 25) 0
theorem sciOtherLanes : FnScope ["self", "count"] ["self", "count"] (defScope siOtherLanes) := ⟨rfl, rfl, rfl, by decide +kernel, rfl, by decide +kernel, by decide +kernel⟩
theorem ok_iOtherLanes {P : Program} {w : World} {K : PySem.W.Frag} {mg : Str → Option Value} {base : Heap} {f : Addr} {fd : FuncData} (F : Fun K "__init__" "OtherLanes.__init__" siOtherLanes f fd) : FnOk P w K mg base CX0 1 f fd ["self", "count"] (spInit K "count") := by
  refine F.ok sciOtherLanes (fun vs H Q E h => ?_) (fun cdv A outer s H vs Q E hr h => ?_)
  · obtain ⟨a, C, y, rfl, _⟩ := h
    rfl
  obtain ⟨a, C, y, rfl, T, hno, ha, k⟩ := h
  refine ⟨_, (pss_one (ps_ost (pv 0) (pv 1))), ?_⟩
  exact ⟨_, rfl, _, rfl, a, C, rfl, T, hno, .inl ⟨ha, fun d hd nd => k d hd nd⟩⟩
abbrev siPassedOver : Stmt := inClass (topS 27) 0
theorem sciPassedOver : FnScope ["self", "lane"] ["self", "lane"] (defScope siPassedOver) := ⟨rfl, rfl, rfl, by decide +kernel, rfl, by decide +kernel, by decide +kernel⟩
theorem ok_iPassedOver {P : Program} {w : World} {K : PySem.W.Frag} {mg : Str → Option Value} {base : Heap} {f : Addr} {fd : FuncData} (F : Fun K "__init__" "PassedOver.__init__" siPassedOver f fd) : FnOk P w K mg base CX0 1 f fd ["self", "lane"] (spInit K "lane") := by
  refine F.ok sciPassedOver (fun vs H Q E h => ?_) (fun cdv A outer s H vs Q E hr h => ?_)
  · obtain ⟨a, C, y, rfl, _⟩ := h
    rfl
  obtain ⟨a, C, y, rfl, T, hno, ha, k⟩ := h
  refine ⟨_, (pss_one (ps_ost (pv 0) (pv 1))), ?_⟩
  exact ⟨_, rfl, _, rfl, a, C, rfl, T, hno, .inl ⟨ha, fun d hd nd => k d hd nd⟩⟩
abbrev siRejected : Stmt := inClass (topS 28) 0
theorem sciRejected : FnScope ["self", "index"] ["self", "index"] (defScope siRejected) := ⟨rfl, rfl, rfl, by decide +kernel, rfl, by decide +kernel, by decide +kernel⟩
theorem ok_iRejected {P : Program} {w : World} {K : PySem.W.Frag} {mg : Str → Option Value} {base : Heap} {f : Addr} {fd : FuncData} (F : Fun K "__init__" "Rejected.__init__" siRejected f fd) : FnOk P w K mg base CX0 1 f fd ["self", "index"] (spInit K "index") := by
  refine F.ok sciRejected (fun vs H Q E h => ?_) (fun cdv A outer s H vs Q E hr h => ?_)
  · obtain ⟨a, C, y, rfl, _⟩ := h
    rfl
  obtain ⟨a, C, y, rfl, T, hno, ha, k⟩ := h
  refine ⟨_, (pss_one (ps_ost (pv 0) (pv 1))), ?_⟩
  exact ⟨_, rfl, _, rfl, a, C, rfl, T, hno, .inl ⟨ha, fun d hd nd => k d hd nd⟩⟩
abbrev siTooLarge : Stmt := inClass (topS 29) 0
theorem sciTooLarge : FnScope ["self", "limit"] ["self", "limit"] (defScope siTooLarge) := ⟨rfl, rfl, rfl, by decide +kernel, rfl, by decide +kernel, by decide +kernel⟩
theorem ok_iTooLarge {P : Program} {w : World} {K : PySem.W.Frag} {mg : Str → Option Value} {base : Heap} {f : Addr} {fd : FuncData} (F : Fun K "__init__" "TooLarge.__init__" siTooLarge f fd) : FnOk P w K mg base CX0 1 f fd ["self", "limit"] (spInit K "limit") := by
  refine F.ok sciTooLarge (fun vs H Q E h => ?_) (fun cdv A outer s H vs Q E hr h => ?_)
  · obtain ⟨a, C, y, rfl, _⟩ := h
    rfl
  obtain ⟨a, C, y, rfl, T, hno, ha, k⟩ := h
  refine ⟨_, (pss_one (ps_ost (pv 0) (pv 1))), ?_⟩
  exact ⟨_, rfl, _, rfl, a, C, rfl, T, hno, .inl ⟨ha, fun d hd nd => k d hd nd⟩⟩
structure Errs (P : Program) (w : World) (K : PySem.W.Frag) (mg : Str → Option Value) (base : Heap) (C : Nat → Addr) : Prop where
  pe : mg "PassError" = some (.ref (C 29))
  ve : mg "ValueError" = none
  e0 : Er0 K mg "BadBatch" (C 0)
  e1 : Er0 K mg "Busy" (C 1)
  e2 : Er0 K mg "Empty" (C 2)
  e3 : Er0 K mg "Impossible" (C 3)
  e4 : Er0 K mg "NoHistory" (C 4)
  e5 : Er0 K mg "NoOrder" (C 5)
  e6 : Er0 K mg "NoPreference" (C 6)
  e7 : Er0 K mg "NoRule" (C 7)
  e8 : Er0 K mg "NothingToUndo" (C 8)
  e9 : Er0 K mg "OtherOrder" (C 9)
  e10 : Er0 K mg "TooManyEdits" (C 10)
  e11 : Er1 P w K mg base "Absent" (C 11) "car"
  e12 : Er1 P w K mg base "BadCount" (C 12) "index"
  e13 : Er1 P w K mg base "BadDay" (C 13) "index"
  e14 : Er1 P w K mg base "BadRow" (C 14) "error"
  e15 : Er1 P w K mg base "BadRule" (C 15) "error"
  e16 : Er1 P w K mg base "BadText" (C 16) "index"
  e17 : Er1 P w K mg base "BadWish" (C 17) "index"
  e18 : Er1 P w K mg base "BadWord" (C 18) "error"
  e19 : Er1 P w K mg base "NoCar" (C 19) "value"
  e20 : Er1 P w K mg base "NoCount" (C 20) "value"
  e21 : Er1 P w K mg base "NoIndex" (C 21) "index"
  e22 : Er1 P w K mg base "NoLane" (C 22) "value"
  e23 : Er1 P w K mg base "NoPair" (C 23) "value"
  e24 : Er1 P w K mg base "NoVersion" (C 24) "version"
  e25 : Er1 P w K mg base "OtherLanes" (C 25) "count"
  e26 : Er1 P w K mg base "PassedOver" (C 26) "lane"
  e27 : Er1 P w K mg base "Rejected" (C 27) "index"
  e28 : Er1 P w K mg base "TooLarge" (C 28) "limit"
  kit : ∀ n < 29, ∀ m < 29, PySem.W.kitOne K (.ref (C n)) (.ref (C m)) = some (n == m)
  kp : ∀ n < 29, PySem.W.kitOne K (.ref (C n)) (.ref (C 29)) = some true
  kv : ∀ n < 29, PySem.W.kitOne K (.ref (C n)) (.type "ValueError") = some true
  is : ∀ n < 29, IsC K (C n)
abbrev sPlain : Stmt := topS 41
abbrev nPlain : List Str := ["_law_error", "_law_kinds", "_law_k"]
theorem scPlain : FnScope nPlain ["_law_error"] (defScope sPlain) :=
  ⟨rfl, rfl, rfl, by decide +kernel, rfl, by decide +kernel, by decide +kernel⟩
abbrev sFilled : Stmt := topS 42
abbrev nFilled : List Str := ["_law_error", "_law_kinds", "_law_k"]
theorem scFilled : FnScope nFilled ["_law_error"] (defScope sFilled) :=
  ⟨rfl, rfl, rfl, by decide +kernel, rfl, by decide +kernel, by decide +kernel⟩
section
variable {P : Program} {w : World} {K : PySem.W.Frag} {mg : Str → Option Value} {base : Heap} {C : Nat → Addr}
theorem is_at (S : Errs P w K mg base C) {H : Hp} {e : Addr} {n : Nat} {o : Option (Str × V)} (hn : n < 29) (he : ErAt H e (C n) o) (j : Nat) (hj : j < 29) {Q : VK} (q : Q (.bl (n == j)) H) : rIsEr K [.ref e, .ref (C j)] H Q :=
  ⟨e, C n, o, .ref (C j), .ref (C j), _, rfl, he, S.is n hn, fun _ r => r, S.kit n hn j hj, q⟩
theorem cat_new {G : Hp} {p1 p2 : Addr} {xs ys : List V} {Q : VK} (a1 : G p1 = some (.lst xs)) (h2 : G p2 = none) (hz : xs.length + ys.length ≤ sizeLine) (k : ∀ p3 G', Ex G G' → G p3 = none → G' p3 = some (.lst (xs ++ ys)) → Q (.ref p3) G') : rCat (.ref p1) (.ref p2) (upd G p2 (.lst ys)) Q :=
  ⟨p1, p2, xs, ys, rfl, rfl, by rw [upd_ne (ne_of_none a1 h2)]; exact a1, upd_same, hz, fun p3 h3 => k p3 _ ((Evl.Ex.new h2).trans (Evl.Ex.new h3)) (Evl.fresh_back (Evl.Ex.new h2) h3) upd_same⟩
theorem beq_swap (n j : Nat) : (((j : Nat) : Int) == (n : Int)) = (n == j) := by
  rw [Bool.eq_iff_iff]
  simp only [beq_iff_eq]
  omega
theorem beq_swap11 (n j : Nat) : ((((j : Nat) : Int) + 11) == (n : Int)) = (n == 11 + j) := by
  rw [Bool.eq_iff_iff]
  simp only [beq_iff_eq]
  omega
def spPlain (C : Nat → Addr) : Sp := fun vs H Q _ => ∃ (e : Addr) (n : Nat) (o : Option (Str × V)), vs = [.ref e] ∧ n < 29 ∧ ErAt H e (C n) o ∧ ∀ p H', Ex H H' → H' p = some (.lst (((rgL 0 11).filter fun k => k == (n : Int)).map V.int)) → Q (.ref p) H'
theorem ok_plain {f : Addr} {fd : FuncData} (F : Fun K "_law_plain" "_law_plain" sPlain f fd) (T : Blt mg) (S : Errs P w K mg base C) : FnOk P w K mg base CX0 1 f fd ["_law_error"] (spPlain C) := by
  refine F.ok scPlain (fun vs H Q E h => ?_) (fun cdv A outer s H vs Q E hr h => ?_)
  · obtain ⟨e, n, o, rfl, _⟩ := h
    rfl
  obtain ⟨e, n, o, rfl, hn, he, k⟩ := h
  refine ⟨_, (pss_cons (ps_set (i := 1) scPlain.nd rfl (Or.inr rfl) (pe_lst (pa_cons (pe_callB (k_isEr (K := K) rfl) rfl T.isinstance bt_isinstance (pa_cons (pv 0) (pa_cons (pe_glob (v := .ref (C 0)) rfl S.e0.1 rfl) pa_nil))) (pa_cons (pe_callB (k_isEr (K := K) rfl) rfl T.isinstance bt_isinstance (pa_cons (pv 0) (pa_cons (pe_glob (v := .ref (C 1)) rfl S.e1.1 rfl) pa_nil))) (pa_cons (pe_callB (k_isEr (K := K) rfl) rfl T.isinstance bt_isinstance (pa_cons (pv 0) (pa_cons (pe_glob (v := .ref (C 2)) rfl S.e2.1 rfl) pa_nil))) pa_nil)))))
    (pss_cons (ps_set (i := 1) scPlain.nd rfl (Or.inr rfl) (pe_op op_cat (pv 1) (pe_lst (pa_cons (pe_callB (k_isEr (K := K) rfl) rfl T.isinstance bt_isinstance (pa_cons (pv 0) (pa_cons (pe_glob (v := .ref (C 3)) rfl S.e3.1 rfl) pa_nil))) (pa_cons (pe_callB (k_isEr (K := K) rfl) rfl T.isinstance bt_isinstance (pa_cons (pv 0) (pa_cons (pe_glob (v := .ref (C 4)) rfl S.e4.1 rfl) pa_nil))) (pa_cons (pe_callB (k_isEr (K := K) rfl) rfl T.isinstance bt_isinstance (pa_cons (pv 0) (pa_cons (pe_glob (v := .ref (C 5)) rfl S.e5.1 rfl) pa_nil))) pa_nil))))))
    (pss_cons (ps_set (i := 1) scPlain.nd rfl (Or.inr rfl) (pe_op op_cat (pv 1) (pe_lst (pa_cons (pe_callB (k_isEr (K := K) rfl) rfl T.isinstance bt_isinstance (pa_cons (pv 0) (pa_cons (pe_glob (v := .ref (C 6)) rfl S.e6.1 rfl) pa_nil))) (pa_cons (pe_callB (k_isEr (K := K) rfl) rfl T.isinstance bt_isinstance (pa_cons (pv 0) (pa_cons (pe_glob (v := .ref (C 7)) rfl S.e7.1 rfl) pa_nil))) (pa_cons (pe_callB (k_isEr (K := K) rfl) rfl T.isinstance bt_isinstance (pa_cons (pv 0) (pa_cons (pe_glob (v := .ref (C 8)) rfl S.e8.1 rfl) pa_nil))) pa_nil))))))
    (pss_cons (ps_set (i := 1) scPlain.nd rfl (Or.inr rfl) (pe_op op_cat (pv 1) (pe_lst (pa_cons (pe_callB (k_isEr (K := K) rfl) rfl T.isinstance bt_isinstance (pa_cons (pv 0) (pa_cons (pe_glob (v := .ref (C 9)) rfl S.e9.1 rfl) pa_nil))) (pa_cons (pe_callB (k_isEr (K := K) rfl) rfl T.isinstance bt_isinstance (pa_cons (pv 0) (pa_cons (pe_glob (v := .ref (C 10)) rfl S.e10.1 rfl) pa_nil))) pa_nil)))))
    (pss_one (ps_ret (pe_lc (own := [("_law_k", 2)]) (g := gName 2)  (by rfl) scPlain.nd (pi_range1 rfl T.range (pa_cons pe_int pa_nil)) (blkOk_by (own := [("_law_k", 2)]) (N := nPlain) (sc := defScope sPlain) (by decide +kernel)) (fun _ _ _ _ _ => (pg_name (i := 2) scPlain.nd rfl (Or.inl rfl))) (fun _ _ _ _ _ => pts_one (pt_val (pe_ix (kx_list (K := K) rfl) (pv 1) (pv 2) (fun _ _ => rfl)))) (fun _ _ _ _ _ => (pv 2))))))))), ?_⟩
  have z : ∀ m, m ≤ 100 → m ≤ sizeLine := fun m h => Nat.le_trans h (by decide)
  refine ⟨_, rfl, e, C n, o, .ref (C 0), .ref (C 0), _, rfl, he, S.is n hn, fun _ r => r, S.kit n hn 0 (by decide), ⟨_, rfl, e, C n, o, .ref (C 1), .ref (C 1), _, rfl, he, S.is n hn, fun _ r => r, S.kit n hn 1 (by decide), ⟨_, rfl, e, C n, o, .ref (C 2), .ref (C 2), _, rfl, he, S.is n hn, fun _ r => r, S.kit n hn 2 (by decide), ⟨z 3 (by decide), fun p1 h1 => ?_⟩⟩⟩⟩
  have e1 := Evl.Ex.new h1 (o := .lst [V.bl (n == 0), V.bl (n == 1), V.bl (n == 2)])
  have he1 := he.mono e1
  have a1 := upd_same (H := H) (a := p1) (o := .lst [V.bl (n == 0), V.bl (n == 1), V.bl (n == 2)])
  generalize upd H p1 (.lst [V.bl (n == 0), V.bl (n == 1), V.bl (n == 2)]) = G1 at e1 he1 a1 ⊢
  refine ⟨_, rfl, ⟨_, rfl, e, C n, o, .ref (C 3), .ref (C 3), _, rfl, he1, S.is n hn, fun _ r => r, S.kit n hn 3 (by decide), ⟨_, rfl, e, C n, o, .ref (C 4), .ref (C 4), _, rfl, he1, S.is n hn, fun _ r => r, S.kit n hn 4 (by decide), ⟨_, rfl, e, C n, o, .ref (C 5), .ref (C 5), _, rfl, he1, S.is n hn, fun _ r => r, S.kit n hn 5 (by decide), ⟨z 3 (by decide), fun q2 h2 => cat_new a1 h2 (z 6 (by decide)) fun p2 G2 x2 _ a2 => ?_⟩⟩⟩⟩⟩
  have e2 := e1.trans x2
  have he2 := he.mono e2
  refine ⟨_, rfl, ⟨_, rfl, e, C n, o, .ref (C 6), .ref (C 6), _, rfl, he2, S.is n hn, fun _ r => r, S.kit n hn 6 (by decide), ⟨_, rfl, e, C n, o, .ref (C 7), .ref (C 7), _, rfl, he2, S.is n hn, fun _ r => r, S.kit n hn 7 (by decide), ⟨_, rfl, e, C n, o, .ref (C 8), .ref (C 8), _, rfl, he2, S.is n hn, fun _ r => r, S.kit n hn 8 (by decide), ⟨z 3 (by decide), fun q3 h3 => cat_new a2 h3 (z 9 (by decide)) fun p3 G3 x3 _ a3 => ?_⟩⟩⟩⟩⟩
  have e3 := e2.trans x3
  have he3 := he.mono e3
  refine ⟨_, rfl, ⟨_, rfl, e, C n, o, .ref (C 9), .ref (C 9), _, rfl, he3, S.is n hn, fun _ r => r, S.kit n hn 9 (by decide), ⟨_, rfl, e, C n, o, .ref (C 10), .ref (C 10), _, rfl, he3, S.is n hn, fun _ r => r, S.kit n hn 10 (by decide), ⟨z 2 (by decide), fun q4 h4 => cat_new a3 h4 (z 11 (by decide)) fun p4 G4 x4 _ a4 => ?_⟩⟩⟩⟩
  have e4 := e3.trans x4
  have he4 := he.mono e4
  have at_ : ∀ j : Nat, j < 11 → atI [V.bl (n == 0), V.bl (n == 1), V.bl (n == 2), V.bl (n == 3), V.bl (n == 4), V.bl (n == 5), V.bl (n == 6), V.bl (n == 7), V.bl (n == 8), V.bl (n == 9), V.bl (n == 10)] (j : Int) = some (.bl (n == j)) := fun j hj => match j, hj with | 0, _ => rfl | 1, _ => rfl | 2, _ => rfl | 3, _ => rfl | 4, _ => rfl | 5, _ => rfl | 6, _ => rfl | 7, _ => rfl | 8, _ => rfl | 9, _ => rfl | 10, _ => rfl
  refine ⟨_, rfl, by decide, by decide, fun D hD => mf_range (fun k => k == (n : Int)) V.int hD (by decide) (fun _ => rfl) (fun x G hx e Q1 q1 => ?_) (fun x G hx e _ Q1 q1 => ⟨_, rfl, q1 G (Evl.Ex.refl _)⟩) (fun H2 e2 h2 => k D H2 (e4.trans e2) h2)⟩
  obtain ⟨j, hj, rfl⟩ : ∃ j : Nat, j < 11 ∧ x = (j : Int) := ⟨x.toNat, by have := mem_rgL.mp hx; omega, by have := mem_rgL.mp hx; omega⟩
  refine ⟨_, rfl, _, rfl, p4, _, _, _, rfl, rfl, SqL.of (e _ _ a4), at_ j hj, _, rfl, ?_⟩
  have q := q1 G (Evl.Ex.refl _)
  rw [beq_swap] at q
  exact q
def spFilled (C : Nat → Addr) : Sp := fun vs H Q _ => ∃ (e : Addr) (n : Nat) (o : Option (Str × V)), vs = [.ref e] ∧ n < 29 ∧ ErAt H e (C n) o ∧ ∀ p H', Ex H H' → H' p = some (.lst (((rgL 0 18).filter fun k => (k + 11) == (n : Int)).map V.int)) → Q (.ref p) H'
theorem ok_filled {f : Addr} {fd : FuncData} (F : Fun K "_law_filled" "_law_filled" sFilled f fd) (T : Blt mg) (S : Errs P w K mg base C) : FnOk P w K mg base CX0 1 f fd ["_law_error"] (spFilled C) := by
  refine F.ok scFilled (fun vs H Q E h => ?_) (fun cdv A outer s H vs Q E hr h => ?_)
  · obtain ⟨e, n, o, rfl, _⟩ := h
    rfl
  obtain ⟨e, n, o, rfl, hn, he, k⟩ := h
  refine ⟨_, (pss_cons (ps_set (i := 1) scFilled.nd rfl (Or.inr rfl) (pe_lst (pa_cons (pe_callB (k_isEr (K := K) rfl) rfl T.isinstance bt_isinstance (pa_cons (pv 0) (pa_cons (pe_glob (v := .ref (C 11)) rfl S.e11.2.1 rfl) pa_nil))) (pa_cons (pe_callB (k_isEr (K := K) rfl) rfl T.isinstance bt_isinstance (pa_cons (pv 0) (pa_cons (pe_glob (v := .ref (C 12)) rfl S.e12.2.1 rfl) pa_nil))) (pa_cons (pe_callB (k_isEr (K := K) rfl) rfl T.isinstance bt_isinstance (pa_cons (pv 0) (pa_cons (pe_glob (v := .ref (C 13)) rfl S.e13.2.1 rfl) pa_nil))) pa_nil)))))
    (pss_cons (ps_set (i := 1) scFilled.nd rfl (Or.inr rfl) (pe_op op_cat (pv 1) (pe_lst (pa_cons (pe_callB (k_isEr (K := K) rfl) rfl T.isinstance bt_isinstance (pa_cons (pv 0) (pa_cons (pe_glob (v := .ref (C 14)) rfl S.e14.2.1 rfl) pa_nil))) (pa_cons (pe_callB (k_isEr (K := K) rfl) rfl T.isinstance bt_isinstance (pa_cons (pv 0) (pa_cons (pe_glob (v := .ref (C 15)) rfl S.e15.2.1 rfl) pa_nil))) (pa_cons (pe_callB (k_isEr (K := K) rfl) rfl T.isinstance bt_isinstance (pa_cons (pv 0) (pa_cons (pe_glob (v := .ref (C 16)) rfl S.e16.2.1 rfl) pa_nil))) pa_nil))))))
    (pss_cons (ps_set (i := 1) scFilled.nd rfl (Or.inr rfl) (pe_op op_cat (pv 1) (pe_lst (pa_cons (pe_callB (k_isEr (K := K) rfl) rfl T.isinstance bt_isinstance (pa_cons (pv 0) (pa_cons (pe_glob (v := .ref (C 17)) rfl S.e17.2.1 rfl) pa_nil))) (pa_cons (pe_callB (k_isEr (K := K) rfl) rfl T.isinstance bt_isinstance (pa_cons (pv 0) (pa_cons (pe_glob (v := .ref (C 18)) rfl S.e18.2.1 rfl) pa_nil))) (pa_cons (pe_callB (k_isEr (K := K) rfl) rfl T.isinstance bt_isinstance (pa_cons (pv 0) (pa_cons (pe_glob (v := .ref (C 19)) rfl S.e19.2.1 rfl) pa_nil))) pa_nil))))))
    (pss_cons (ps_set (i := 1) scFilled.nd rfl (Or.inr rfl) (pe_op op_cat (pv 1) (pe_lst (pa_cons (pe_callB (k_isEr (K := K) rfl) rfl T.isinstance bt_isinstance (pa_cons (pv 0) (pa_cons (pe_glob (v := .ref (C 20)) rfl S.e20.2.1 rfl) pa_nil))) (pa_cons (pe_callB (k_isEr (K := K) rfl) rfl T.isinstance bt_isinstance (pa_cons (pv 0) (pa_cons (pe_glob (v := .ref (C 21)) rfl S.e21.2.1 rfl) pa_nil))) (pa_cons (pe_callB (k_isEr (K := K) rfl) rfl T.isinstance bt_isinstance (pa_cons (pv 0) (pa_cons (pe_glob (v := .ref (C 22)) rfl S.e22.2.1 rfl) pa_nil))) pa_nil))))))
    (pss_cons (ps_set (i := 1) scFilled.nd rfl (Or.inr rfl) (pe_op op_cat (pv 1) (pe_lst (pa_cons (pe_callB (k_isEr (K := K) rfl) rfl T.isinstance bt_isinstance (pa_cons (pv 0) (pa_cons (pe_glob (v := .ref (C 23)) rfl S.e23.2.1 rfl) pa_nil))) (pa_cons (pe_callB (k_isEr (K := K) rfl) rfl T.isinstance bt_isinstance (pa_cons (pv 0) (pa_cons (pe_glob (v := .ref (C 24)) rfl S.e24.2.1 rfl) pa_nil))) (pa_cons (pe_callB (k_isEr (K := K) rfl) rfl T.isinstance bt_isinstance (pa_cons (pv 0) (pa_cons (pe_glob (v := .ref (C 25)) rfl S.e25.2.1 rfl) pa_nil))) pa_nil))))))
    (pss_cons (ps_set (i := 1) scFilled.nd rfl (Or.inr rfl) (pe_op op_cat (pv 1) (pe_lst (pa_cons (pe_callB (k_isEr (K := K) rfl) rfl T.isinstance bt_isinstance (pa_cons (pv 0) (pa_cons (pe_glob (v := .ref (C 26)) rfl S.e26.2.1 rfl) pa_nil))) (pa_cons (pe_callB (k_isEr (K := K) rfl) rfl T.isinstance bt_isinstance (pa_cons (pv 0) (pa_cons (pe_glob (v := .ref (C 27)) rfl S.e27.2.1 rfl) pa_nil))) (pa_cons (pe_callB (k_isEr (K := K) rfl) rfl T.isinstance bt_isinstance (pa_cons (pv 0) (pa_cons (pe_glob (v := .ref (C 28)) rfl S.e28.2.1 rfl) pa_nil))) pa_nil))))))
    (pss_one (ps_ret (pe_lc (own := [("_law_k", 2)]) (g := gName 2)  (by rfl) scFilled.nd (pi_range1 rfl T.range (pa_cons pe_int pa_nil)) (blkOk_by (own := [("_law_k", 2)]) (N := nFilled) (sc := defScope sFilled) (by decide +kernel)) (fun _ _ _ _ _ => (pg_name (i := 2) scFilled.nd rfl (Or.inl rfl))) (fun _ _ _ _ _ => pts_one (pt_val (pe_ix (kx_list (K := K) rfl) (pv 1) (pv 2) (fun _ _ => rfl)))) (fun _ _ _ _ _ => (pv 2))))))))))), ?_⟩
  have z : ∀ m, m ≤ 100 → m ≤ sizeLine := fun m h => Nat.le_trans h (by decide)
  refine ⟨_, rfl, e, C n, o, .ref (C 11), .ref (C 11), _, rfl, he, S.is n hn, fun _ r => r, S.kit n hn 11 (by decide), ⟨_, rfl, e, C n, o, .ref (C 12), .ref (C 12), _, rfl, he, S.is n hn, fun _ r => r, S.kit n hn 12 (by decide), ⟨_, rfl, e, C n, o, .ref (C 13), .ref (C 13), _, rfl, he, S.is n hn, fun _ r => r, S.kit n hn 13 (by decide), ⟨z 3 (by decide), fun p1 h1 => ?_⟩⟩⟩⟩
  have e1 := Evl.Ex.new h1 (o := .lst [V.bl (n == 11), V.bl (n == 12), V.bl (n == 13)])
  have he1 := he.mono e1
  have a1 := upd_same (H := H) (a := p1) (o := .lst [V.bl (n == 11), V.bl (n == 12), V.bl (n == 13)])
  generalize upd H p1 (.lst [V.bl (n == 11), V.bl (n == 12), V.bl (n == 13)]) = G1 at e1 he1 a1 ⊢
  refine ⟨_, rfl, ⟨_, rfl, e, C n, o, .ref (C 14), .ref (C 14), _, rfl, he1, S.is n hn, fun _ r => r, S.kit n hn 14 (by decide), ⟨_, rfl, e, C n, o, .ref (C 15), .ref (C 15), _, rfl, he1, S.is n hn, fun _ r => r, S.kit n hn 15 (by decide), ⟨_, rfl, e, C n, o, .ref (C 16), .ref (C 16), _, rfl, he1, S.is n hn, fun _ r => r, S.kit n hn 16 (by decide), ⟨z 3 (by decide), fun q2 h2 => cat_new a1 h2 (z 6 (by decide)) fun p2 G2 x2 _ a2 => ?_⟩⟩⟩⟩⟩
  have e2 := e1.trans x2
  have he2 := he.mono e2
  refine ⟨_, rfl, ⟨_, rfl, e, C n, o, .ref (C 17), .ref (C 17), _, rfl, he2, S.is n hn, fun _ r => r, S.kit n hn 17 (by decide), ⟨_, rfl, e, C n, o, .ref (C 18), .ref (C 18), _, rfl, he2, S.is n hn, fun _ r => r, S.kit n hn 18 (by decide), ⟨_, rfl, e, C n, o, .ref (C 19), .ref (C 19), _, rfl, he2, S.is n hn, fun _ r => r, S.kit n hn 19 (by decide), ⟨z 3 (by decide), fun q3 h3 => cat_new a2 h3 (z 9 (by decide)) fun p3 G3 x3 _ a3 => ?_⟩⟩⟩⟩⟩
  have e3 := e2.trans x3
  have he3 := he.mono e3
  refine ⟨_, rfl, ⟨_, rfl, e, C n, o, .ref (C 20), .ref (C 20), _, rfl, he3, S.is n hn, fun _ r => r, S.kit n hn 20 (by decide), ⟨_, rfl, e, C n, o, .ref (C 21), .ref (C 21), _, rfl, he3, S.is n hn, fun _ r => r, S.kit n hn 21 (by decide), ⟨_, rfl, e, C n, o, .ref (C 22), .ref (C 22), _, rfl, he3, S.is n hn, fun _ r => r, S.kit n hn 22 (by decide), ⟨z 3 (by decide), fun q4 h4 => cat_new a3 h4 (z 12 (by decide)) fun p4 G4 x4 _ a4 => ?_⟩⟩⟩⟩⟩
  have e4 := e3.trans x4
  have he4 := he.mono e4
  refine ⟨_, rfl, ⟨_, rfl, e, C n, o, .ref (C 23), .ref (C 23), _, rfl, he4, S.is n hn, fun _ r => r, S.kit n hn 23 (by decide), ⟨_, rfl, e, C n, o, .ref (C 24), .ref (C 24), _, rfl, he4, S.is n hn, fun _ r => r, S.kit n hn 24 (by decide), ⟨_, rfl, e, C n, o, .ref (C 25), .ref (C 25), _, rfl, he4, S.is n hn, fun _ r => r, S.kit n hn 25 (by decide), ⟨z 3 (by decide), fun q5 h5 => cat_new a4 h5 (z 15 (by decide)) fun p5 G5 x5 _ a5 => ?_⟩⟩⟩⟩⟩
  have e5 := e4.trans x5
  have he5 := he.mono e5
  refine ⟨_, rfl, ⟨_, rfl, e, C n, o, .ref (C 26), .ref (C 26), _, rfl, he5, S.is n hn, fun _ r => r, S.kit n hn 26 (by decide), ⟨_, rfl, e, C n, o, .ref (C 27), .ref (C 27), _, rfl, he5, S.is n hn, fun _ r => r, S.kit n hn 27 (by decide), ⟨_, rfl, e, C n, o, .ref (C 28), .ref (C 28), _, rfl, he5, S.is n hn, fun _ r => r, S.kit n hn 28 (by decide), ⟨z 3 (by decide), fun q6 h6 => cat_new a5 h6 (z 18 (by decide)) fun p6 G6 x6 _ a6 => ?_⟩⟩⟩⟩⟩
  have e6 := e5.trans x6
  have he6 := he.mono e6
  have at_ : ∀ j : Nat, j < 18 → atI [V.bl (n == 11), V.bl (n == 12), V.bl (n == 13), V.bl (n == 14), V.bl (n == 15), V.bl (n == 16), V.bl (n == 17), V.bl (n == 18), V.bl (n == 19), V.bl (n == 20), V.bl (n == 21), V.bl (n == 22), V.bl (n == 23), V.bl (n == 24), V.bl (n == 25), V.bl (n == 26), V.bl (n == 27), V.bl (n == 28)] (j : Int) = some (.bl (n == 11 + j)) := fun j hj => match j, hj with | 0, _ => rfl | 1, _ => rfl | 2, _ => rfl | 3, _ => rfl | 4, _ => rfl | 5, _ => rfl | 6, _ => rfl | 7, _ => rfl | 8, _ => rfl | 9, _ => rfl | 10, _ => rfl | 11, _ => rfl | 12, _ => rfl | 13, _ => rfl | 14, _ => rfl | 15, _ => rfl | 16, _ => rfl | 17, _ => rfl | j + 18, h => absurd h (by omega)
  refine ⟨_, rfl, by decide, by decide, fun D hD => mf_range (fun k => (k + 11) == (n : Int)) V.int hD (by decide) (fun _ => rfl) (fun x G hx e Q1 q1 => ?_) (fun x G hx e _ Q1 q1 => ⟨_, rfl, q1 G (Evl.Ex.refl _)⟩) (fun H2 e2 h2 => k D H2 (e6.trans e2) h2)⟩
  obtain ⟨j, hj, rfl⟩ : ∃ j : Nat, j < 18 ∧ x = (j : Int) := ⟨x.toNat, by have := mem_rgL.mp hx; omega, by have := mem_rgL.mp hx; omega⟩
  refine ⟨_, rfl, _, rfl, p6, _, _, _, rfl, rfl, SqL.of (e _ _ a6), at_ j hj, _, rfl, ?_⟩
  have q := q1 G (Evl.Ex.refl _)
  rw [beq_swap11] at q
  exact q
end
end Lr

namespace Lr
open PySem L2
def rEqNil (K : PySem.W.Frag) : R2 := fun x y H Q => ∃ a b xs, x = .ref a ∧ y = .ref b ∧ SqL K H a xs ∧ SqL K H b [] ∧ Q (.bl (decide (xs = []))) H
theorem ko_eqNil {X : Cx} {K : PySem.W.Frag} (h : X.K = K) (hu : X.A.units + 64 < cLine) : OpR X (compareOp .Eq) (rEqNil K) := by
  subst h
  intro pins s σ H x y v u Q I rx ry h
  obtain ⟨a, b, xs, rfl, rfl, h1, h2, q⟩ := h
  cases rx
  cases ry
  obtain ⟨its, rv, ⟨o, n, ho, hc, _, hd⟩, _⟩ := I.list h1
  obtain ⟨its2, rv2, ⟨o2, n2, ho2, hc2, _, hd2⟩, _⟩ := I.list h2
  cases rv2
  have i1 : s.heap.IsList a its.toArray := ⟨o, ho, hc, n, hd⟩
  have i2 : s.heap.IsList b #[] := ⟨o2, ho2, hc2, n2, hd2⟩
  cases rv with
  | nil => exact PySem.SeqAt.RcAt.lists (A := X.A) (e := fun _ => true) i1 i2 rfl (by omega) (fun j h1 _ => absurd h1 (Nat.not_lt_zero j)) X.prog X.w _ _ ⟨.bl _, H, I, rfl, q⟩
  | cons r rv => exact PySem.SeqAt.RcAt.lists_lengths (A := X.A) i1 i2 (by simp) (by omega) X.prog X.w _ _ ⟨.bl _, H, I, rfl, q⟩
theorem for_enumL {K : PySem.W.Frag} {a : Addr} {xs : List V} {i j : Nat} {tb : TS} {D : Ends} {σ : L2.St} {H : Hp} (Pv : Nat → L2.St → Hp → Prop) (h0 : Pv 0 σ H) (ht : ∀ n σ2 H2, Pv n σ2 H2 → SqL K H2 a xs)
    (hs : ∀ n x σ2 H2 H3, xs[n]? = some x → Pv n σ2 H2 → Ex H2 H3 → tb { D with nx := Pv (n + 1), ct := Pv (n + 1), bk := D.nx } ((σ2.set i (some (.int (n : Int)))).set j (some x)) H3)
    (hd : ∀ σ2 H2, Pv xs.length σ2 H2 → D.nx σ2 H2) :
    ∃ W : Nat → Nat → L2.St → Hp → Prop, (∃ m, W 0 m σ H) ∧ ∀ n m σ2 H2, W n m σ2 H2 →
      ((Ite K a).stop n H2 ∧ D.nx σ2 H2) ∨ ((Ite K a).go n H2 ∧ ∃ N : L2.St → Hp → Prop, (∀ σ3 H3, N σ3 H3 → ∃ m2, m2 < m ∧ W (n + 1) m2 σ3 H3) ∧
        ∀ x H3, (Ite K a).yld n H2 x H3 → gTup K 2 (gCons (gName i) (gCons (gName j) gNil)) x σ2 H3 fun σ4 H4 => tb { D with nx := N, ct := N, bk := D.nx } σ4 H4) := by
  refine ⟨fun n m σ2 H2 => m = xs.length - n ∧ n ≤ xs.length ∧ Pv n σ2 H2, ⟨_, rfl, Nat.zero_le _, h0⟩, ?_⟩
  rintro n m σ2 H2 ⟨rfl, hn, p⟩
  by_cases lt : n < xs.length
  · refine .inr ⟨⟨xs, xs[n], ht n σ2 H2 p, List.getElem?_eq_getElem lt⟩, Pv (n + 1), fun σ3 H3 q => ⟨xs.length - (n + 1), by omega, rfl, lt, q⟩, ?_⟩
    rintro y H3 ⟨T, x, rfl, hT, rfl, hx⟩
    exact ⟨T, _, rfl, SqT.of upd_same, rfl, _, _, rfl, _, _, rfl, rfl, hs n x σ2 H2 _ (hx xs (ht n σ2 H2 p)) p (Evl.Ex.new hT)⟩
  · have e : n = xs.length := by omega
    subst e
    exact .inl ⟨⟨xs, ht _ σ2 H2 p, Nat.le_refl _⟩, hd σ2 H2 p⟩
abbrev sAlone : Stmt := topS 43
abbrev nAlone : List Str := ["_law_errors", "_law_others", "_law_k", "_law_error", "_law_every", "_law_strange"]
theorem scAlone : FnScope nAlone ["_law_errors", "_law_others"] (defScope sAlone) :=
  ⟨rfl, rfl, rfl, by decide +kernel, rfl, by decide +kernel, by decide +kernel⟩
section
variable {P : Program} {w : World} {K : PySem.W.Frag} {mg : Str → Option Value} {base : Heap} {C : Nat → Addr}
/-- the list at l: m errors, the i-th of the class a + i -/
def ErsAt (C : Nat → Addr) (H : Hp) (l : Addr) (a m : Nat) (xs : List V) : Prop := H l = some (.lst xs) ∧ xs.length = m ∧ ∀ i v, xs[i]? = some v → ∃ e o, v = .ref e ∧ ErAt H e (C (a + i)) o
theorem ErsAt.mono {H H' : Hp} {l : Addr} {a m : Nat} {xs : List V} (x : Ex H H') (h : ErsAt C H l a m xs) : ErsAt C H' l a m xs :=
  ⟨x _ _ h.1, h.2.1, fun i v hi => by obtain ⟨e, o, q, z⟩ := h.2.2 i v hi; exact ⟨e, o, q, z.mono x⟩⟩
def spAlone (C : Nat → Addr) : Sp := fun vs H Q _ => ∃ (l m : Addr) (xs ys : List V), vs = [.ref l, .ref m] ∧ ErsAt C H l 0 11 xs ∧ ErsAt C H m 11 18 ys ∧ ∀ H', Ex H H' → Q (.bl true) H'
theorem ok_alone {f : Addr} {fd : FuncData} (F : Fun K "_law_alone" "_law_alone" sAlone f fd) (T : Blt mg) (S : Errs P w K mg base C) (c_law_plain : Cal P w K mg base 1 "_law_plain" ["_law_error"] (spPlain C)) (c_law_filled : Cal P w K mg base 1 "_law_filled" ["_law_error"] (spFilled C)) :
    FnOk P w K mg base CX0 2 f fd ["_law_errors", "_law_others"] (spAlone C) := by
  refine F.ok scAlone (fun vs H Q E h => ?_) (fun cdv A outer s H vs Q E hr h => ?_)
  · obtain ⟨l, m, xs, ys, rfl, _⟩ := h
    rfl
  obtain ⟨l, m, xs, ys, rfl, hl, hm, k⟩ := h
  refine ⟨_, (pss_cons (ps_for PassesOwn.never rfl (pi_enum rfl T.enumerate (pa_cons (pv 0) pa_nil)) (pg_tup rfl (pgs_cons (pg_name (i := 2) scAlone.nd rfl (Or.inl rfl)) (pgs_cons (pg_name (i := 3) scAlone.nd rfl (Or.inl rfl)) pgs_nil))) (pss_one (ps_if (PW.pt (pw_or (pt_cmpR (ko_neD (K := K) rfl hr.units) (pe_cal c_law_plain (hr.mono (by decide)) rfl (pa_cons (pv 3) pa_nil)) (pe_lst (pa_cons (pv 2) pa_nil)) (nomark _)) (pw_or1 (pt_cmpR (ko_neNil (K := K) rfl hr.units) (pe_cal c_law_filled (hr.mono (by decide)) rfl (pa_cons (pv 3) pa_nil)) (pe_lst pa_nil) (nomark _))))) (pss_one (ps_ret pe_bl)) pss_nil)))
    (pss_cons (ps_for PassesOwn.never rfl (pi_enum rfl T.enumerate (pa_cons (pv 1) pa_nil)) (pg_tup rfl (pgs_cons (pg_name (i := 2) scAlone.nd rfl (Or.inl rfl)) (pgs_cons (pg_name (i := 3) scAlone.nd rfl (Or.inl rfl)) pgs_nil))) (pss_one (ps_if (PW.pt (pw_or (pt_cmpR (ko_neD (K := K) rfl hr.units) (pe_cal c_law_filled (hr.mono (by decide)) rfl (pa_cons (pv 3) pa_nil)) (pe_lst (pa_cons (pv 2) pa_nil)) (nomark _)) (pw_or1 (pt_cmpR (ko_neNil (K := K) rfl hr.units) (pe_cal c_law_plain (hr.mono (by decide)) rfl (pa_cons (pv 3) pa_nil)) (pe_lst pa_nil) (nomark _))))) (pss_one (ps_ret pe_bl)) pss_nil)))
    (pss_cons (ps_set (i := 4) scAlone.nd rfl (Or.inl rfl) (pe_op op_cat (pv 0) (pv 1)))
    (pss_cons (ps_setLc (i := 5) (own := [("_law_error", 3)]) (g := gName 3) (by rfl) scAlone.nd rfl rfl (sw_true rfl rfl rfl (by decide +kernel)) (ki_list (K := K) rfl (pv 4)) (blkOk_by (own := [("_law_error", 3)]) (N := nAlone) (sc := defScope sAlone) (by decide +kernel)) (fun _ _ _ _ _ => (pg_name (i := 3) scAlone.nd rfl (Or.inl rfl))) (fun _ _ _ _ _ => pts_one (pt_not (pt_val (pe_callB (k_isEr (K := K) rfl) rfl T.isinstance bt_isinstance (pa_cons (pv 3) (pa_cons (pe_glob (v := .ref (C 29)) rfl S.pe rfl) pa_nil)))))) (fun _ _ _ _ _ => (pv 3)))
    (pss_one (ps_ret (pe_and (pe_cmpR (ko_eqNil (K := K) rfl hr.units) (pv 5) (pe_lst pa_nil) (nomark _)) (pe_one (pe_cmpR (ko_eqNil (K := K) rfl hr.units) (pe_lc (own := [("_law_error", 3)]) (g := gName 3)  (by rfl) scAlone.nd (ki_list (K := K) rfl (pv 4)) (blkOk_by (own := [("_law_error", 3)]) (N := nAlone) (sc := defScope sAlone) (by decide +kernel)) (fun _ _ _ _ _ => (pg_name (i := 3) scAlone.nd rfl (Or.inl rfl))) (fun _ _ _ _ _ => pts_one (pt_not (pt_val (pe_callB (k_isEr (K := K) rfl) rfl T.isinstance bt_isinstance (pa_cons (pv 3) (pa_cons (pe_bltn (v := .ty "ValueError") rfl S.ve (by decide +kernel) rfl) pa_nil)))))) (fun _ _ _ _ _ => (pv 3))) (pe_lst pa_nil) (nomark _)))))))))), ?_⟩
  have pl : ∀ n : Nat, n < 29 → (rgL 0 11).filter (fun k => k == (n : Int)) = if n < 11 then [(n : Int)] else [] := by decide
  have fi : ∀ n : Nat, n < 29 → (rgL 0 18).filter (fun k => (k + 11) == (n : Int)) = if n < 11 then [] else [((n - 11 : Nat) : Int)] := by decide
  have eq1 : ∀ n : Nat, n < 29 → PyData.eqv (.list [.int (n : Int)]) (.list [.int (n : Int)]) = true := by decide
  have z : ∀ m, m ≤ 100 → m ≤ sizeLine := fun m h => Nat.le_trans h (by decide)
  refine ⟨_, rfl, l, xs, rfl, SqL.of hl.1, ?_⟩
  refine for_enumL (xs := xs) (fun n σ2 G => (∃ a b, σ2 = [some (.ref l), some (.ref m), a, b, none, none]) ∧ Ex H G) ⟨⟨_, _, rfl⟩, Evl.Ex.refl _⟩ (fun n σ2 G h => SqL.of (h.2 _ _ hl.1)) ?_ ?_
  · rintro n x σ2 G G1 hx ⟨⟨a, b, rfl⟩, e⟩ e1
    obtain ⟨er, o, rfl, he⟩ := hl.2.2 n x hx
    have hn : n < 11 := by rw [← hl.2.1]; exact (List.getElem?_eq_some_iff.mp hx).1
    rw [Nat.zero_add] at he
    refine ⟨_, rfl, er, n, o, rfl, by omega, he.mono (e.trans e1), fun p G2 e2 hp => ?_⟩
    rw [pl n (by omega), if_pos hn] at hp
    refine ⟨_, rfl, z 1 (by decide), fun q hq => ?_⟩
    refine ⟨.list [.int n], .list [.int n], .lst (SqL.of (by rw [upd_ne (ne_of_none hp hq)]; exact hp)) (.cons (.int _) .nil), .lst (SqL.of upd_same) (.cons (.int _) .nil), rfl, rfl, ?_⟩
    rw [eq1 n (by omega)]
    have e3 := Evl.Ex.new hq (o := .lst [.int (n : Int)])
    generalize upd G2 q (.lst [.int (n : Int)]) = G3 at e3 ⊢
    refine ⟨_, rfl, ?_⟩
    show ite _ _ _
    rw [if_neg (by decide)]
    refine ⟨_, rfl, er, n, o, rfl, by omega, he.mono ((e.trans e1).trans (e2.trans e3)), fun p2 G4 e4 hp2 => ?_⟩
    rw [fi n (by omega), if_pos hn] at hp2
    refine ⟨z 0 (by decide), fun q2 hq2 => ⟨p2, q2, [], rfl, rfl, SqL.of (by rw [upd_ne (ne_of_none hp2 hq2)]; exact hp2), SqL.of upd_same, _, rfl, ?_⟩⟩
    show ite _ _ _
    rw [if_neg (by decide)]
    exact ⟨⟨_, _, rfl⟩, ((e.trans e1).trans (e2.trans e3)).trans (e4.trans (Evl.Ex.new hq2))⟩
  · rintro σ2 G ⟨⟨a, b, rfl⟩, e⟩
    refine ⟨_, rfl, m, ys, rfl, SqL.of (e _ _ hm.1), ?_⟩
    refine for_enumL (xs := ys) (fun n σ2 G => (∃ a b, σ2 = [some (.ref l), some (.ref m), a, b, none, none]) ∧ Ex H G) ⟨⟨_, _, rfl⟩, e⟩ (fun n σ2 G h => SqL.of (h.2 _ _ hm.1)) ?_ ?_
    · rintro n x σ2 G G1 hx ⟨⟨a, b, rfl⟩, e⟩ e1
      obtain ⟨er, o, rfl, he⟩ := hm.2.2 n x hx
      have hn : n < 18 := by rw [← hm.2.1]; exact (List.getElem?_eq_some_iff.mp hx).1
      refine ⟨_, rfl, er, 11 + n, o, rfl, by omega, he.mono (e.trans e1), fun p G2 e2 hp => ?_⟩
      rw [fi (11 + n) (by omega), if_neg (by omega), Nat.add_sub_cancel_left] at hp
      refine ⟨_, rfl, z 1 (by decide), fun q hq => ?_⟩
      refine ⟨.list [.int n], .list [.int n], .lst (SqL.of (by rw [upd_ne (ne_of_none hp hq)]; exact hp)) (.cons (.int _) .nil), .lst (SqL.of upd_same) (.cons (.int _) .nil), rfl, rfl, ?_⟩
      rw [eq1 n (by omega)]
      have e3 := Evl.Ex.new hq (o := .lst [.int (n : Int)])
      generalize upd G2 q (.lst [.int (n : Int)]) = G3 at e3 ⊢
      refine ⟨_, rfl, ?_⟩
      show ite _ _ _
      rw [if_neg (by decide)]
      refine ⟨_, rfl, er, 11 + n, o, rfl, by omega, he.mono ((e.trans e1).trans (e2.trans e3)), fun p2 G4 e4 hp2 => ?_⟩
      rw [pl (11 + n) (by omega), if_neg (by omega)] at hp2
      refine ⟨z 0 (by decide), fun q2 hq2 => ⟨p2, q2, [], rfl, rfl, SqL.of (by rw [upd_ne (ne_of_none hp2 hq2)]; exact hp2), SqL.of upd_same, _, rfl, ?_⟩⟩
      show ite _ _ _
      rw [if_neg (by decide)]
      exact ⟨⟨_, _, rfl⟩, ((e.trans e1).trans (e2.trans e3)).trans (e4.trans (Evl.Ex.new hq2))⟩
    · rintro σ2 G ⟨⟨a, b, rfl⟩, e⟩
      refine ⟨_, rfl, _, rfl, l, m, xs, ys, rfl, rfl, e _ _ hl.1, e _ _ hm.1, by rw [hl.2.1, hm.2.1]; exact z 29 (by decide), fun p hp => ?_⟩
      have e1 := Evl.Ex.new hp (o := .lst (xs ++ ys))
      have hev := upd_same (H := G) (a := p) (o := .lst (xs ++ ys))
      generalize upd G p (.lst (xs ++ ys)) = G1 at e1 hev ⊢
      have len : (xs ++ ys).length < 100000 := by rw [List.length_append, hl.2.1, hm.2.1]; decide
      have every : ∀ x ∈ xs ++ ys, ∃ er n o, x = .ref er ∧ n < 29 ∧ ErAt H er (C n) o := by
        intro x hx
        rcases List.mem_append.mp hx with h | h
        · obtain ⟨i, hi, rfl⟩ := List.getElem_of_mem h
          obtain ⟨er, o, q, z⟩ := hl.2.2 i _ (List.getElem?_eq_getElem hi)
          exact ⟨er, 0 + i, o, q, by rw [hl.2.1] at hi; omega, z⟩
        · obtain ⟨i, hi, rfl⟩ := List.getElem_of_mem h
          obtain ⟨er, o, q, z⟩ := hm.2.2 i _ (List.getElem?_eq_getElem hi)
          exact ⟨er, 11 + i, o, q, by rw [hm.2.1] at hi; omega, z⟩
      have nof : ∀ zs : List V, (zs.filter fun _ => false).map id = [] := by intro zs; induction zs with | nil => rfl | cons _ _ ih => exact ih
      refine ⟨_, rfl, p, rfl, ⟨_, SqL.of hev⟩, fun D hD => mf_list (xs := xs ++ ys) (fun _ => false) id hD (SqL.of hev) len (fun _ => rfl) (fun x G2 hx e2 Q1 q1 => ?_) (fun x G2 hx e2 hf _ _ => nomatch hf) (fun H2 e2 h2 => ?_)⟩
      · obtain ⟨er, n, o, rfl, hn, he⟩ := every x hx
        exact ⟨_, rfl, er, C n, o, .ref (C 29), .ref (C 29), true, rfl, he.mono ((e.trans e1).trans e2), S.is n hn, fun _ r => r, S.kp n hn, _, rfl, q1 G2 (Evl.Ex.refl _)⟩
      rw [nof] at h2
      refine ⟨_, rfl, z 0 (by decide), fun q hq => ⟨D, q, [], rfl, rfl, SqL.of (by rw [upd_ne (ne_of_none h2 hq)]; exact h2), SqL.of upd_same, ?_⟩⟩
      have e3 := Evl.Ex.new hq (o := .lst [])
      generalize upd H2 q (.lst []) = H3 at e3 ⊢
      have ev3 := e3 _ _ (e2 _ _ hev)
      refine ⟨_, rfl, ?_⟩
      rw [if_pos (by decide)]
      refine ⟨_, rfl, p, rfl, ⟨_, SqL.of ev3⟩, fun D2 hD2 => mf_list (xs := xs ++ ys) (fun _ => false) id hD2 (SqL.of ev3) len (fun _ => rfl) (fun x G2 hx e4 Q1 q1 => ?_) (fun x G2 hx e2 hf _ _ => nomatch hf) (fun H4 e4 h4 => ?_)⟩
      · obtain ⟨er, n, o, rfl, hn, he⟩ := every x hx
        exact ⟨_, rfl, er, C n, o, .ty "ValueError", .type "ValueError", true, rfl, he.mono (((e.trans e1).trans (e2.trans e3)).trans e4), S.is n hn, fun _ r => r, S.kv n hn, _, rfl, q1 G2 (Evl.Ex.refl _)⟩
      rw [nof] at h4
      exact ⟨z 0 (by decide), fun q2 hq2 => ⟨D2, q2, [], rfl, rfl, SqL.of (by rw [upd_ne (ne_of_none h4 hq2)]; exact h4), SqL.of upd_same, k _ (((e.trans e1).trans (e2.trans e3)).trans (e4.trans (Evl.Ex.new hq2)))⟩⟩
end
end Lr

namespace Lr
open PySem L2
abbrev sMade : Stmt := topS 44
abbrev nMade : List Str := ["_law_values", "_law_gone", "_law_number", "_law_day", "_law_line", "_law_table", "_law_text", "_law_wish", "_law_letters", "_law_car", "_law_many", "_law_item", "_law_lane", "_law_pair", "_law_state", "_law_lanes", "_law_over", "_law_batch", "_law_large", "_law_fields", "_law_made_here"]
theorem scMade : FnScope nMade ["_law_values"] (defScope sMade) :=
  ⟨rfl, rfl, rfl, by decide +kernel, rfl, by decide +kernel, by decide +kernel⟩
section
variable {P : Program} {w : World} {K : PySem.W.Frag} {mg : Str → Option Value} {base : Heap} {C : Nat → Addr}
theorem nx_eq {f : L2.St → Hp → Prop} {σ σ' : L2.St} {H : Hp} (h : σ = σ') (g : f σ' H) : f σ H := h ▸ g
def spMade (C : Nat → Addr) : Sp := fun vs H Q _ => ∃ (l : Addr) (xs : List V), vs = [.ref l] ∧ H l = some (.lst xs) ∧ xs.length = 18 ∧ ∀ p m q ys H', Ex H H' → H' p = some (.lst [.ref m, .ref q]) → ErsAt C H' m 11 18 ys → H' q = some (.lst xs) → Q (.ref p) H'
theorem ok_made {f : Addr} {fd : FuncData} (F : Fun K "_law_made" "_law_made" sMade f fd) (T : Blt mg) (S : Errs P w K mg base C) : FnOk P w K mg base CX0 3 f fd ["_law_values"] (spMade C) := by
  refine F.ok scMade (fun vs H Q E h => ?_) (fun cdv A outer s H vs Q E hr h => ?_)
  · obtain ⟨l, xs, rfl, _⟩ := h
    rfl
  obtain ⟨l, xs, rfl, hl, hlen, k⟩ := h
  refine ⟨_, (pss_cons (ps_par3 (i := 1) (j := 2) (l := 3) rfl scMade.nd rfl rfl rfl (by decide) (by decide) (by decide) rfl rfl rfl (pa_cons (pe_mk1 S.e11 (hr.mono (by decide)) rfl (pe_ix (kx_list (K := K) rfl) (pv 0) pe_int (fun _ _ => rfl))) (pa_cons (pe_mk1 S.e12 (hr.mono (by decide)) rfl (pe_ix (kx_list (K := K) rfl) (pv 0) pe_int (fun _ _ => rfl))) (pa_cons (pe_mk1 S.e13 (hr.mono (by decide)) rfl (pe_ix (kx_list (K := K) rfl) (pv 0) pe_int (fun _ _ => rfl))) pa_nil))) rfl)
    (pss_cons (ps_par3 (i := 4) (j := 5) (l := 6) rfl scMade.nd rfl rfl rfl (by decide) (by decide) (by decide) rfl rfl rfl (pa_cons (pe_mk1 S.e14 (hr.mono (by decide)) rfl (pe_ix (kx_list (K := K) rfl) (pv 0) pe_int (fun _ _ => rfl))) (pa_cons (pe_mk1 S.e15 (hr.mono (by decide)) rfl (pe_ix (kx_list (K := K) rfl) (pv 0) pe_int (fun _ _ => rfl))) (pa_cons (pe_mk1 S.e16 (hr.mono (by decide)) rfl (pe_ix (kx_list (K := K) rfl) (pv 0) pe_int (fun _ _ => rfl))) pa_nil))) rfl)
    (pss_cons (ps_par3 (i := 7) (j := 8) (l := 9) rfl scMade.nd rfl rfl rfl (by decide) (by decide) (by decide) rfl rfl rfl (pa_cons (pe_mk1 S.e17 (hr.mono (by decide)) rfl (pe_ix (kx_list (K := K) rfl) (pv 0) pe_int (fun _ _ => rfl))) (pa_cons (pe_mk1 S.e18 (hr.mono (by decide)) rfl (pe_ix (kx_list (K := K) rfl) (pv 0) pe_int (fun _ _ => rfl))) (pa_cons (pe_mk1 S.e19 (hr.mono (by decide)) rfl (pe_ix (kx_list (K := K) rfl) (pv 0) pe_int (fun _ _ => rfl))) pa_nil))) rfl)
    (pss_cons (ps_par3 (i := 10) (j := 11) (l := 12) rfl scMade.nd rfl rfl rfl (by decide) (by decide) (by decide) rfl rfl rfl (pa_cons (pe_mk1 S.e20 (hr.mono (by decide)) rfl (pe_ix (kx_list (K := K) rfl) (pv 0) pe_int (fun _ _ => rfl))) (pa_cons (pe_mk1 S.e21 (hr.mono (by decide)) rfl (pe_ix (kx_list (K := K) rfl) (pv 0) pe_int (fun _ _ => rfl))) (pa_cons (pe_mk1 S.e22 (hr.mono (by decide)) rfl (pe_ix (kx_list (K := K) rfl) (pv 0) pe_int (fun _ _ => rfl))) pa_nil))) rfl)
    (pss_cons (ps_par3 (i := 13) (j := 14) (l := 15) rfl scMade.nd rfl rfl rfl (by decide) (by decide) (by decide) rfl rfl rfl (pa_cons (pe_mk1 S.e23 (hr.mono (by decide)) rfl (pe_ix (kx_list (K := K) rfl) (pv 0) pe_int (fun _ _ => rfl))) (pa_cons (pe_mk1 S.e24 (hr.mono (by decide)) rfl (pe_ix (kx_list (K := K) rfl) (pv 0) pe_int (fun _ _ => rfl))) (pa_cons (pe_mk1 S.e25 (hr.mono (by decide)) rfl (pe_ix (kx_list (K := K) rfl) (pv 0) pe_int (fun _ _ => rfl))) pa_nil))) rfl)
    (pss_cons (ps_par (i := 16) (j := 17) rfl scMade.nd rfl rfl (by decide) rfl rfl (pa_cons (pe_mk1 S.e26 (hr.mono (by decide)) rfl (pe_ix (kx_list (K := K) rfl) (pv 0) pe_int (fun _ _ => rfl))) (pa_cons (pe_mk1 S.e27 (hr.mono (by decide)) rfl (pe_ix (kx_list (K := K) rfl) (pv 0) pe_int (fun _ _ => rfl))) pa_nil)) rfl)
    (pss_cons (ps_set (i := 18) scMade.nd rfl (Or.inl rfl) (pe_mk1 S.e28 (hr.mono (by decide)) rfl (pe_ix (kx_list (K := K) rfl) (pv 0) pe_int (fun _ _ => rfl))))
    (pss_cons (ps_set (i := 19) scMade.nd rfl (Or.inl rfl) (pe_lst (pa_cons (pe_erf (K := K) rfl (pv 1)) (pa_cons (pe_erf (K := K) rfl (pv 2)) (pa_cons (pe_erf (K := K) rfl (pv 3)) (pa_cons (pe_erf (K := K) rfl (pv 4)) (pa_cons (pe_erf (K := K) rfl (pv 5)) (pa_cons (pe_erf (K := K) rfl (pv 6)) (pa_cons (pe_erf (K := K) rfl (pv 7)) (pa_cons (pe_erf (K := K) rfl (pv 8)) pa_nil))))))))))
    (pss_cons (ps_set (i := 19) scMade.nd rfl (Or.inl rfl) (pe_op op_cat (pv 19) (pe_lst (pa_cons (pe_erf (K := K) rfl (pv 9)) (pa_cons (pe_erf (K := K) rfl (pv 10)) (pa_cons (pe_erf (K := K) rfl (pv 11)) (pa_cons (pe_erf (K := K) rfl (pv 12)) (pa_cons (pe_erf (K := K) rfl (pv 13)) (pa_cons (pe_erf (K := K) rfl (pv 14)) (pa_cons (pe_erf (K := K) rfl (pv 15)) pa_nil))))))))))
    (pss_cons (ps_set (i := 19) scMade.nd rfl (Or.inl rfl) (pe_op op_cat (pv 19) (pe_lst (pa_cons (pe_erf (K := K) rfl (pv 16)) (pa_cons (pe_erf (K := K) rfl (pv 17)) (pa_cons (pe_erf (K := K) rfl (pv 18)) pa_nil))))))
    (pss_cons (ps_set (i := 20) scMade.nd rfl (Or.inl rfl) (pe_lst (pa_cons (pv 1) (pa_cons (pv 2) (pa_cons (pv 3) (pa_cons (pv 4) (pa_cons (pv 5) (pa_cons (pv 6) (pa_cons (pv 7) (pa_cons (pv 8) (pa_cons (pv 9) (pa_cons (pv 10) (pa_cons (pv 11) (pa_cons (pv 12) (pa_cons (pv 13) (pa_cons (pv 14) (pa_cons (pv 15) (pa_cons (pv 16) pa_nil))))))))))))))))))
    (pss_one (ps_ret (pe_lst (pa_cons (pe_op op_cat (pv 20) (pe_lst (pa_cons (pv 17) (pa_cons (pv 18) pa_nil)))) (pa_cons (pv 19) pa_nil)))))))))))))))), ?_⟩
  obtain ⟨v0, v1, v2, v3, v4, v5, v6, v7, v8, v9, v10, v11, v12, v13, v14, v15, v16, v17, rfl⟩ : ∃ v0 v1 v2 v3 v4 v5 v6 v7 v8 v9 v10 v11 v12 v13 v14 v15 v16 v17, xs = [v0, v1, v2, v3, v4, v5, v6, v7, v8, v9, v10, v11, v12, v13, v14, v15, v16, v17] := by
    match xs, hlen with
    | [v0, v1, v2, v3, v4, v5, v6, v7, v8, v9, v10, v11, v12, v13, v14, v15, v16, v17], _ => exact ⟨_, _, _, _, _, _, _, _, _, _, _, _, _, _, _, _, _, _, rfl⟩
  have z : ∀ m, m ≤ 100 → m ≤ sizeLine := fun m h => Nat.le_trans h (by decide)
  have f0 : XfC K (C 11) := S.e11.2.2.2.1
  have g0 := S.e11.2.2.1
  have f1 : XfC K (C 12) := S.e12.2.2.2.1
  have g1 := S.e12.2.2.1
  have f2 : XfC K (C 13) := S.e13.2.2.2.1
  have g2 := S.e13.2.2.1
  have f3 : XfC K (C 14) := S.e14.2.2.2.1
  have g3 := S.e14.2.2.1
  have f4 : XfC K (C 15) := S.e15.2.2.2.1
  have g4 := S.e15.2.2.1
  have f5 : XfC K (C 16) := S.e16.2.2.2.1
  have g5 := S.e16.2.2.1
  have f6 : XfC K (C 17) := S.e17.2.2.2.1
  have g6 := S.e17.2.2.1
  have f7 : XfC K (C 18) := S.e18.2.2.2.1
  have g7 := S.e18.2.2.1
  have f8 : XfC K (C 19) := S.e19.2.2.2.1
  have g8 := S.e19.2.2.1
  have f9 : XfC K (C 20) := S.e20.2.2.2.1
  have g9 := S.e20.2.2.1
  have f10 : XfC K (C 21) := S.e21.2.2.2.1
  have g10 := S.e21.2.2.1
  have f11 : XfC K (C 22) := S.e22.2.2.2.1
  have g11 := S.e22.2.2.1
  have f12 : XfC K (C 23) := S.e23.2.2.2.1
  have g12 := S.e23.2.2.1
  have f13 : XfC K (C 24) := S.e24.2.2.2.1
  have g13 := S.e24.2.2.1
  have f14 : XfC K (C 25) := S.e25.2.2.2.1
  have g14 := S.e25.2.2.1
  have f15 : XfC K (C 26) := S.e26.2.2.2.1
  have g15 := S.e26.2.2.1
  have f16 : XfC K (C 27) := S.e27.2.2.2.1
  have g16 := S.e27.2.2.1
  have f17 : XfC K (C 28) := S.e28.2.2.2.1
  have g17 := S.e28.2.2.1
  have x0 : Ex H H := Evl.Ex.refl _
  refine ⟨_, rfl, l, _, 0, v0, rfl, rfl, SqL.of hl, rfl, fun a0 G0 e0 _ r0 => ?_⟩
  replace hl := e0 _ _ hl
  replace x0 := x0.trans e0
  refine ⟨_, rfl, l, _, 1, v1, rfl, rfl, SqL.of hl, rfl, fun a1 G1 e1 _ r1 => ?_⟩
  replace hl := e1 _ _ hl
  replace x0 := x0.trans e1
  replace r0 := r0.mono e1
  refine ⟨_, rfl, l, _, 2, v2, rfl, rfl, SqL.of hl, rfl, fun a2 G2 e2 _ r2 => ⟨_, _, _, rfl, ?_⟩⟩
  refine nx_eq (σ' := [some (.ref l), some (.ref a0), some (.ref a1), some (.ref a2), none, none, none, none, none, none, none, none, none, none, none, none, none, none, none, none, none]) rfl ?_
  replace hl := e2 _ _ hl
  replace x0 := x0.trans e2
  replace r0 := r0.mono e2
  replace r1 := r1.mono e2
  refine ⟨_, rfl, l, _, 3, v3, rfl, rfl, SqL.of hl, rfl, fun a3 G3 e3 _ r3 => ?_⟩
  replace hl := e3 _ _ hl
  replace x0 := x0.trans e3
  replace r0 := r0.mono e3
  replace r1 := r1.mono e3
  replace r2 := r2.mono e3
  refine ⟨_, rfl, l, _, 4, v4, rfl, rfl, SqL.of hl, rfl, fun a4 G4 e4 _ r4 => ?_⟩
  replace hl := e4 _ _ hl
  replace x0 := x0.trans e4
  replace r0 := r0.mono e4
  replace r1 := r1.mono e4
  replace r2 := r2.mono e4
  replace r3 := r3.mono e4
  refine ⟨_, rfl, l, _, 5, v5, rfl, rfl, SqL.of hl, rfl, fun a5 G5 e5 _ r5 => ⟨_, _, _, rfl, ?_⟩⟩
  refine nx_eq (σ' := [some (.ref l), some (.ref a0), some (.ref a1), some (.ref a2), some (.ref a3), some (.ref a4), some (.ref a5), none, none, none, none, none, none, none, none, none, none, none, none, none, none]) rfl ?_
  replace hl := e5 _ _ hl
  replace x0 := x0.trans e5
  replace r0 := r0.mono e5
  replace r1 := r1.mono e5
  replace r2 := r2.mono e5
  replace r3 := r3.mono e5
  replace r4 := r4.mono e5
  refine ⟨_, rfl, l, _, 6, v6, rfl, rfl, SqL.of hl, rfl, fun a6 G6 e6 _ r6 => ?_⟩
  replace hl := e6 _ _ hl
  replace x0 := x0.trans e6
  replace r0 := r0.mono e6
  replace r1 := r1.mono e6
  replace r2 := r2.mono e6
  replace r3 := r3.mono e6
  replace r4 := r4.mono e6
  replace r5 := r5.mono e6
  refine ⟨_, rfl, l, _, 7, v7, rfl, rfl, SqL.of hl, rfl, fun a7 G7 e7 _ r7 => ?_⟩
  replace hl := e7 _ _ hl
  replace x0 := x0.trans e7
  replace r0 := r0.mono e7
  replace r1 := r1.mono e7
  replace r2 := r2.mono e7
  replace r3 := r3.mono e7
  replace r4 := r4.mono e7
  replace r5 := r5.mono e7
  replace r6 := r6.mono e7
  refine ⟨_, rfl, l, _, 8, v8, rfl, rfl, SqL.of hl, rfl, fun a8 G8 e8 _ r8 => ⟨_, _, _, rfl, ?_⟩⟩
  refine nx_eq (σ' := [some (.ref l), some (.ref a0), some (.ref a1), some (.ref a2), some (.ref a3), some (.ref a4), some (.ref a5), some (.ref a6), some (.ref a7), some (.ref a8), none, none, none, none, none, none, none, none, none, none, none]) rfl ?_
  replace hl := e8 _ _ hl
  replace x0 := x0.trans e8
  replace r0 := r0.mono e8
  replace r1 := r1.mono e8
  replace r2 := r2.mono e8
  replace r3 := r3.mono e8
  replace r4 := r4.mono e8
  replace r5 := r5.mono e8
  replace r6 := r6.mono e8
  replace r7 := r7.mono e8
  refine ⟨_, rfl, l, _, 9, v9, rfl, rfl, SqL.of hl, rfl, fun a9 G9 e9 _ r9 => ?_⟩
  replace hl := e9 _ _ hl
  replace x0 := x0.trans e9
  replace r0 := r0.mono e9
  replace r1 := r1.mono e9
  replace r2 := r2.mono e9
  replace r3 := r3.mono e9
  replace r4 := r4.mono e9
  replace r5 := r5.mono e9
  replace r6 := r6.mono e9
  replace r7 := r7.mono e9
  replace r8 := r8.mono e9
  refine ⟨_, rfl, l, _, 10, v10, rfl, rfl, SqL.of hl, rfl, fun a10 G10 e10 _ r10 => ?_⟩
  replace hl := e10 _ _ hl
  replace x0 := x0.trans e10
  replace r0 := r0.mono e10
  replace r1 := r1.mono e10
  replace r2 := r2.mono e10
  replace r3 := r3.mono e10
  replace r4 := r4.mono e10
  replace r5 := r5.mono e10
  replace r6 := r6.mono e10
  replace r7 := r7.mono e10
  replace r8 := r8.mono e10
  replace r9 := r9.mono e10
  refine ⟨_, rfl, l, _, 11, v11, rfl, rfl, SqL.of hl, rfl, fun a11 G11 e11 _ r11 => ⟨_, _, _, rfl, ?_⟩⟩
  refine nx_eq (σ' := [some (.ref l), some (.ref a0), some (.ref a1), some (.ref a2), some (.ref a3), some (.ref a4), some (.ref a5), some (.ref a6), some (.ref a7), some (.ref a8), some (.ref a9), some (.ref a10), some (.ref a11), none, none, none, none, none, none, none, none]) rfl ?_
  replace hl := e11 _ _ hl
  replace x0 := x0.trans e11
  replace r0 := r0.mono e11
  replace r1 := r1.mono e11
  replace r2 := r2.mono e11
  replace r3 := r3.mono e11
  replace r4 := r4.mono e11
  replace r5 := r5.mono e11
  replace r6 := r6.mono e11
  replace r7 := r7.mono e11
  replace r8 := r8.mono e11
  replace r9 := r9.mono e11
  replace r10 := r10.mono e11
  refine ⟨_, rfl, l, _, 12, v12, rfl, rfl, SqL.of hl, rfl, fun a12 G12 e12 _ r12 => ?_⟩
  replace hl := e12 _ _ hl
  replace x0 := x0.trans e12
  replace r0 := r0.mono e12
  replace r1 := r1.mono e12
  replace r2 := r2.mono e12
  replace r3 := r3.mono e12
  replace r4 := r4.mono e12
  replace r5 := r5.mono e12
  replace r6 := r6.mono e12
  replace r7 := r7.mono e12
  replace r8 := r8.mono e12
  replace r9 := r9.mono e12
  replace r10 := r10.mono e12
  replace r11 := r11.mono e12
  refine ⟨_, rfl, l, _, 13, v13, rfl, rfl, SqL.of hl, rfl, fun a13 G13 e13 _ r13 => ?_⟩
  replace hl := e13 _ _ hl
  replace x0 := x0.trans e13
  replace r0 := r0.mono e13
  replace r1 := r1.mono e13
  replace r2 := r2.mono e13
  replace r3 := r3.mono e13
  replace r4 := r4.mono e13
  replace r5 := r5.mono e13
  replace r6 := r6.mono e13
  replace r7 := r7.mono e13
  replace r8 := r8.mono e13
  replace r9 := r9.mono e13
  replace r10 := r10.mono e13
  replace r11 := r11.mono e13
  replace r12 := r12.mono e13
  refine ⟨_, rfl, l, _, 14, v14, rfl, rfl, SqL.of hl, rfl, fun a14 G14 e14 _ r14 => ⟨_, _, _, rfl, ?_⟩⟩
  refine nx_eq (σ' := [some (.ref l), some (.ref a0), some (.ref a1), some (.ref a2), some (.ref a3), some (.ref a4), some (.ref a5), some (.ref a6), some (.ref a7), some (.ref a8), some (.ref a9), some (.ref a10), some (.ref a11), some (.ref a12), some (.ref a13), some (.ref a14), none, none, none, none, none]) rfl ?_
  replace hl := e14 _ _ hl
  replace x0 := x0.trans e14
  replace r0 := r0.mono e14
  replace r1 := r1.mono e14
  replace r2 := r2.mono e14
  replace r3 := r3.mono e14
  replace r4 := r4.mono e14
  replace r5 := r5.mono e14
  replace r6 := r6.mono e14
  replace r7 := r7.mono e14
  replace r8 := r8.mono e14
  replace r9 := r9.mono e14
  replace r10 := r10.mono e14
  replace r11 := r11.mono e14
  replace r12 := r12.mono e14
  replace r13 := r13.mono e14
  refine ⟨_, rfl, l, _, 15, v15, rfl, rfl, SqL.of hl, rfl, fun a15 G15 e15 _ r15 => ?_⟩
  replace hl := e15 _ _ hl
  replace x0 := x0.trans e15
  replace r0 := r0.mono e15
  replace r1 := r1.mono e15
  replace r2 := r2.mono e15
  replace r3 := r3.mono e15
  replace r4 := r4.mono e15
  replace r5 := r5.mono e15
  replace r6 := r6.mono e15
  replace r7 := r7.mono e15
  replace r8 := r8.mono e15
  replace r9 := r9.mono e15
  replace r10 := r10.mono e15
  replace r11 := r11.mono e15
  replace r12 := r12.mono e15
  replace r13 := r13.mono e15
  replace r14 := r14.mono e15
  refine ⟨_, rfl, l, _, 16, v16, rfl, rfl, SqL.of hl, rfl, fun a16 G16 e16 _ r16 => ⟨_, _, rfl, ?_⟩⟩
  refine nx_eq (σ' := [some (.ref l), some (.ref a0), some (.ref a1), some (.ref a2), some (.ref a3), some (.ref a4), some (.ref a5), some (.ref a6), some (.ref a7), some (.ref a8), some (.ref a9), some (.ref a10), some (.ref a11), some (.ref a12), some (.ref a13), some (.ref a14), some (.ref a15), some (.ref a16), none, none, none]) rfl ?_
  replace hl := e16 _ _ hl
  replace x0 := x0.trans e16
  replace r0 := r0.mono e16
  replace r1 := r1.mono e16
  replace r2 := r2.mono e16
  replace r3 := r3.mono e16
  replace r4 := r4.mono e16
  replace r5 := r5.mono e16
  replace r6 := r6.mono e16
  replace r7 := r7.mono e16
  replace r8 := r8.mono e16
  replace r9 := r9.mono e16
  replace r10 := r10.mono e16
  replace r11 := r11.mono e16
  replace r12 := r12.mono e16
  replace r13 := r13.mono e16
  replace r14 := r14.mono e16
  replace r15 := r15.mono e16
  refine ⟨_, rfl, l, _, 17, v17, rfl, rfl, SqL.of hl, rfl, fun a17 G17 e17 _ r17 => ?_⟩
  refine nx_eq (σ' := [some (.ref l), some (.ref a0), some (.ref a1), some (.ref a2), some (.ref a3), some (.ref a4), some (.ref a5), some (.ref a6), some (.ref a7), some (.ref a8), some (.ref a9), some (.ref a10), some (.ref a11), some (.ref a12), some (.ref a13), some (.ref a14), some (.ref a15), some (.ref a16), some (.ref a17), none, none]) rfl ?_
  replace hl := e17 _ _ hl
  replace x0 := x0.trans e17
  replace r0 := r0.mono e17
  replace r1 := r1.mono e17
  replace r2 := r2.mono e17
  replace r3 := r3.mono e17
  replace r4 := r4.mono e17
  replace r5 := r5.mono e17
  replace r6 := r6.mono e17
  replace r7 := r7.mono e17
  replace r8 := r8.mono e17
  replace r9 := r9.mono e17
  replace r10 := r10.mono e17
  replace r11 := r11.mono e17
  replace r12 := r12.mono e17
  replace r13 := r13.mono e17
  replace r14 := r14.mono e17
  replace r15 := r15.mono e17
  replace r16 := r16.mono e17
  refine ⟨_, rfl, a0, C 11, v0, rfl, r0, f0, g0, ?_⟩
  refine ⟨_, rfl, a1, C 12, v1, rfl, r1, f1, g1, ?_⟩
  refine ⟨_, rfl, a2, C 13, v2, rfl, r2, f2, g2, ?_⟩
  refine ⟨_, rfl, a3, C 14, v3, rfl, r3, f3, g3, ?_⟩
  refine ⟨_, rfl, a4, C 15, v4, rfl, r4, f4, g4, ?_⟩
  refine ⟨_, rfl, a5, C 16, v5, rfl, r5, f5, g5, ?_⟩
  refine ⟨_, rfl, a6, C 17, v6, rfl, r6, f6, g6, ?_⟩
  refine ⟨_, rfl, a7, C 18, v7, rfl, r7, f7, g7, ?_⟩
  refine ⟨z 8 (by decide), fun p1 h1 => ?_⟩
  have y1 := Evl.Ex.new h1 (o := .lst [v0, v1, v2, v3, v4, v5, v6, v7])
  have b1 := upd_same (H := G17) (a := p1) (o := .lst [v0, v1, v2, v3, v4, v5, v6, v7])
  generalize upd G17 p1 (.lst [v0, v1, v2, v3, v4, v5, v6, v7]) = F1 at y1 b1 ⊢
  replace r0 := r0.mono y1
  replace r1 := r1.mono y1
  replace r2 := r2.mono y1
  replace r3 := r3.mono y1
  replace r4 := r4.mono y1
  replace r5 := r5.mono y1
  replace r6 := r6.mono y1
  replace r7 := r7.mono y1
  replace r8 := r8.mono y1
  replace r9 := r9.mono y1
  replace r10 := r10.mono y1
  replace r11 := r11.mono y1
  replace r12 := r12.mono y1
  replace r13 := r13.mono y1
  replace r14 := r14.mono y1
  replace r15 := r15.mono y1
  replace r16 := r16.mono y1
  replace r17 := r17.mono y1
  refine ⟨_, rfl, _, rfl, a8, C 19, v8, rfl, r8, f8, g8, ?_⟩
  refine ⟨_, rfl, a9, C 20, v9, rfl, r9, f9, g9, ?_⟩
  refine ⟨_, rfl, a10, C 21, v10, rfl, r10, f10, g10, ?_⟩
  refine ⟨_, rfl, a11, C 22, v11, rfl, r11, f11, g11, ?_⟩
  refine ⟨_, rfl, a12, C 23, v12, rfl, r12, f12, g12, ?_⟩
  refine ⟨_, rfl, a13, C 24, v13, rfl, r13, f13, g13, ?_⟩
  refine ⟨_, rfl, a14, C 25, v14, rfl, r14, f14, g14, ?_⟩
  refine ⟨z 7 (by decide), fun q2 h2 => cat_new b1 h2 (z 15 (by decide)) fun p2 F2 y2 _ b2 => ?_⟩
  replace r0 := r0.mono y2
  replace r1 := r1.mono y2
  replace r2 := r2.mono y2
  replace r3 := r3.mono y2
  replace r4 := r4.mono y2
  replace r5 := r5.mono y2
  replace r6 := r6.mono y2
  replace r7 := r7.mono y2
  replace r8 := r8.mono y2
  replace r9 := r9.mono y2
  replace r10 := r10.mono y2
  replace r11 := r11.mono y2
  replace r12 := r12.mono y2
  replace r13 := r13.mono y2
  replace r14 := r14.mono y2
  replace r15 := r15.mono y2
  replace r16 := r16.mono y2
  replace r17 := r17.mono y2
  refine ⟨_, rfl, _, rfl, a15, C 26, v15, rfl, r15, f15, g15, ?_⟩
  refine ⟨_, rfl, a16, C 27, v16, rfl, r16, f16, g16, ?_⟩
  refine ⟨_, rfl, a17, C 28, v17, rfl, r17, f17, g17, ?_⟩
  refine ⟨z 3 (by decide), fun q3 h3 => cat_new b2 h3 (z 18 (by decide)) fun p3 F3 y3 _ b3 => ?_⟩
  replace r0 := r0.mono y3
  replace r1 := r1.mono y3
  replace r2 := r2.mono y3
  replace r3 := r3.mono y3
  replace r4 := r4.mono y3
  replace r5 := r5.mono y3
  replace r6 := r6.mono y3
  replace r7 := r7.mono y3
  replace r8 := r8.mono y3
  replace r9 := r9.mono y3
  replace r10 := r10.mono y3
  replace r11 := r11.mono y3
  replace r12 := r12.mono y3
  replace r13 := r13.mono y3
  replace r14 := r14.mono y3
  replace r15 := r15.mono y3
  replace r16 := r16.mono y3
  replace r17 := r17.mono y3
  refine ⟨_, rfl, _, rfl, _, rfl, _, rfl, _, rfl, _, rfl, _, rfl, _, rfl, _, rfl, _, rfl, _, rfl, _, rfl, _, rfl, _, rfl, _, rfl, _, rfl, z 16 (by decide), fun p4 h4 => ?_⟩
  have y4 := Evl.Ex.new h4 (o := .lst [.ref a0, .ref a1, .ref a2, .ref a3, .ref a4, .ref a5, .ref a6, .ref a7, .ref a8, .ref a9, .ref a10, .ref a11, .ref a12, .ref a13, .ref a14, .ref a15])
  have b4 := upd_same (H := F3) (a := p4) (o := .lst [.ref a0, .ref a1, .ref a2, .ref a3, .ref a4, .ref a5, .ref a6, .ref a7, .ref a8, .ref a9, .ref a10, .ref a11, .ref a12, .ref a13, .ref a14, .ref a15])
  generalize upd F3 p4 (.lst [.ref a0, .ref a1, .ref a2, .ref a3, .ref a4, .ref a5, .ref a6, .ref a7, .ref a8, .ref a9, .ref a10, .ref a11, .ref a12, .ref a13, .ref a14, .ref a15]) = F4 at y4 b4 ⊢
  refine ⟨_, rfl, _, rfl, _, rfl, z 2 (by decide), fun q5 h5 => cat_new b4 h5 (z 18 (by decide)) fun p5 F5 y5 _ b5 => ?_⟩
  refine ⟨_, rfl, z 2 (by decide), fun p6 h6 => ?_⟩
  have y6 := Evl.Ex.new h6 (o := .lst [.ref p5, .ref p3])
  have y := y4.trans (y5.trans y6)
  refine k p6 p5 p3 _ _ (x0.trans ((y1.trans (y2.trans y3)).trans y)) upd_same ⟨y6 _ _ b5, rfl, ?_⟩ (y _ _ b3)
  intro i v hi
  have w : ∀ i : Nat, i < 18 → ∀ v, ([.ref a0, .ref a1, .ref a2, .ref a3, .ref a4, .ref a5, .ref a6, .ref a7, .ref a8, .ref a9, .ref a10, .ref a11, .ref a12, .ref a13, .ref a14, .ref a15, .ref a16, .ref a17] : List V)[i]? = some v → ∃ e o, v = .ref e ∧ ErAt F3 e (C (11 + i)) o := fun i hi => match i, hi with
    | 0, _ => fun v h => ⟨a0, _, (Option.some.inj h).symm, r0⟩
    | 1, _ => fun v h => ⟨a1, _, (Option.some.inj h).symm, r1⟩
    | 2, _ => fun v h => ⟨a2, _, (Option.some.inj h).symm, r2⟩
    | 3, _ => fun v h => ⟨a3, _, (Option.some.inj h).symm, r3⟩
    | 4, _ => fun v h => ⟨a4, _, (Option.some.inj h).symm, r4⟩
    | 5, _ => fun v h => ⟨a5, _, (Option.some.inj h).symm, r5⟩
    | 6, _ => fun v h => ⟨a6, _, (Option.some.inj h).symm, r6⟩
    | 7, _ => fun v h => ⟨a7, _, (Option.some.inj h).symm, r7⟩
    | 8, _ => fun v h => ⟨a8, _, (Option.some.inj h).symm, r8⟩
    | 9, _ => fun v h => ⟨a9, _, (Option.some.inj h).symm, r9⟩
    | 10, _ => fun v h => ⟨a10, _, (Option.some.inj h).symm, r10⟩
    | 11, _ => fun v h => ⟨a11, _, (Option.some.inj h).symm, r11⟩
    | 12, _ => fun v h => ⟨a12, _, (Option.some.inj h).symm, r12⟩
    | 13, _ => fun v h => ⟨a13, _, (Option.some.inj h).symm, r13⟩
    | 14, _ => fun v h => ⟨a14, _, (Option.some.inj h).symm, r14⟩
    | 15, _ => fun v h => ⟨a15, _, (Option.some.inj h).symm, r15⟩
    | 16, _ => fun v h => ⟨a16, _, (Option.some.inj h).symm, r16⟩
    | 17, _ => fun v h => ⟨a17, _, (Option.some.inj h).symm, r17⟩
    | i + 18, h => absurd h (by omega)
  obtain ⟨e, o, q, r⟩ := w i (List.getElem?_eq_some_iff.mp hi).1 v hi
  exact ⟨e, o, q, r.mono y⟩
end
end Lr

namespace Lr
open PySem L2
structure Sh (m k : Nat) (d : PyData) : Prop where
  sh : d.showable = true
  len : d.shown.length ≤ m
  dep : d.depth ≤ k
theorem Sh.mono {m k m' k' : Nat} {d : PyData} (h : Sh m k d) (hm : m ≤ m') (hk : k ≤ k') : Sh m' k' d := ⟨h.sh, Nat.le_trans h.len hm, Nat.le_trans h.dep hk⟩
theorem Sh.fit {m k : Nat} {d : PyData} (h : Sh m k d) (hm : m ≤ 1000000) (hk : k ≤ 60) : Fit d := ⟨h.sh, Nat.le_trans h.len (Nat.le_trans hm (by decide)), Nat.le_trans h.dep hk⟩
theorem sh_all {m k : Nat} : ∀ {es : List PyData}, (∀ e ∈ es, Sh m k e) → PyData.showableAll es = true ∧ ((PyData.shownAll es).map (·.length)).sum ≤ m * es.length ∧ PyData.depthAll es ≤ k
  | [], _ => by simp [PyData.showableAll, PyData.shownAll, PyData.depthAll]
  | x :: r, h => by
    obtain ⟨a, b, c⟩ := sh_all (es := r) fun y hy => h y (by simp [hy])
    have hx := h x (by simp)
    have h1 := hx.len
    have h2 := hx.dep
    refine ⟨by simp [PyData.showableAll, hx.sh, a], ?_, by simp only [PyData.depthAll]; omega⟩
    simp only [List.map_cons, PyData.shownAll, List.sum_cons, List.length_cons, Nat.mul_add, Nat.mul_one]
    omega
theorem sh_tup {m k c : Nat} {es : List PyData} (h : ∀ e ∈ es, Sh m k e) (hc : es.length ≤ c) : Sh (c * (m + 2) + 3) (k + 1) (.tuple es) := by
  obtain ⟨a, b, e⟩ := sh_all h
  refine ⟨by simpa [PyData.showable] using a, ?_, by simp only [PyData.depth]; omega⟩
  simp only [PyData.shown]
  have t := tupleText_len_le (PyData.shownAll es)
  rw [PyData.shownAll_length] at t
  have q : m * es.length + 2 * es.length ≤ c * (m + 2) := by
    rw [← Nat.add_mul, Nat.mul_comm, Nat.add_comm m 2, Nat.add_comm 2 m]
    exact Nat.mul_le_mul_right _ hc
  omega
theorem sh_lst {m k c : Nat} {es : List PyData} (h : ∀ e ∈ es, Sh m k e) (hc : es.length ≤ c) : Sh (c * (m + 2) + 3) (k + 1) (.list es) := by
  obtain ⟨a, b, e⟩ := sh_all h
  refine ⟨by simpa [PyData.showable] using a, ?_, by simp only [PyData.depth]; omega⟩
  simp only [PyData.shown]
  have t := listText_len_le (PyData.shownAll es)
  rw [PyData.shownAll_length] at t
  have q : m * es.length + 2 * es.length ≤ c * (m + 2) := by
    rw [← Nat.add_mul, Nat.mul_comm, Nat.add_comm m 2, Nat.add_comm 2 m]
    exact Nat.mul_le_mul_right _ hc
  omega
theorem small_show {i : Int} (h : i.natAbs < 10 ^ 12) : (PyData.int i).showable = true := by
  simp only [PyData.showable, decide_eq_true_eq]
  have h1 : i.natAbs < 2 ^ 40 := Nat.lt_trans h (by decide)
  have := PySem.Flt.log2_lt_of (k := 40) (by decide) h1
  omega
theorem int_sh {i : Int} (h : i.natAbs < 10 ^ 12) : Sh 20 0 (.int i) := ⟨small_show h, Nat.le_trans (PyData.shown_int_le h) (by decide), by simp [PyData.depth]⟩
theorem odd_sh : ∀ d ∈ oddD, Sh 60 2 d := by
  have h : ∀ d ∈ oddD, (d.showable && decide (d.shown.length ≤ 60) && decide (d.depth ≤ 2)) = true := by decide +kernel
  intro d hd
  have q := h d hd
  simp only [Bool.and_eq_true, decide_eq_true_eq] at q
  exact ⟨q.1.1, q.1.2, q.2⟩

/-! ### a list made turn by turn, whose items may hold lists -/
section
variable {a : Addr} {xs : List V} {te : TE} {vs : List Nat} {σ : L2.St} {B H1 : Hp} {D : Addr} {Qd : Hp → Prop} {j : Nat}
theorem made_rangeB {n : Nat} (M : PyData → Prop) (hD : H1 D = none) (hB : Ex B H1) (hn : n < 100000)
    (hw : ∀ x, wipe ((wipe σ vs).set j (some x)) vs = wipe σ vs)
    (he : ∀ i : Nat, i < n → ∀ B' H', Ex B B' → Ex B' H' → Ex H1 H' → ∀ Q : VK, (∀ v d B2 H2, Grow B' H' B2 H2 → Dv B2 v d → M d → Q v H2) → te ((wipe σ vs).set j (some (.int (i : Int)))) H' Q)
    (hd : ∀ (ys : List V) (ds : List PyData) B' H', ys.length = n → Grow B H1 B' H' → H' D = some (.lst ys) → DvAll B' ys ds → (∀ d ∈ ds, M d) → Qd H') :
    ∃ W : Nat → Nat → Hp → Prop, (∃ m, W 0 m (upd H1 D (.lst []))) ∧ ∀ i m H, W i m H →
      ((Itr 0 n).stop i H ∧ Qd H) ∨ ((Itr 0 n).go i H ∧ ∃ Nx : Hp → Prop, (∀ H', Nx H' → ∃ m', m' < m ∧ W (i + 1) m' H') ∧ ∀ x H', (Itr 0 n).yld i H x H' → gName j x (wipe σ vs) H' fun σ2 H2 => wipe σ2 vs = wipe σ vs ∧ tYes σ2 H2 fun b H3 =>
        if b = true then te σ2 H3 fun y H4 => ∃ acc, H4 D = some (.lst acc) ∧ acc.length < sizeLine ∧ Nx (upd H4 D (.lst (acc ++ [y]))) else Nx H3) := by
  have hBD : B D = none := Evl.fresh_back hB hD
  refine lc_range (lo := 0) (n := n) (fun i H' => ∃ (ys : List V) (ds : List PyData) (B' : Hp), ys.length = i ∧ Grow B H1 B' H' ∧ B' D = none ∧ H' D = some (.lst ys) ∧ DvAll B' ys ds ∧ ∀ d ∈ ds, M d) ?_ ?_ ?_
  · refine ⟨[], [], B, rfl, ⟨Evl.Ex.refl _, hB.trans (Evl.Ex.new hD), Evl.Ex.new hD, fun a o h => .inl h⟩, hBD, upd_same, .nil, fun _ z => (nomatch z)⟩
  · rintro i H' hi ⟨ys, ds, B', hl, g, f, hy, hdv, hm⟩
    have e0 : (0 : Int) + (i : Int) = (i : Int) := Int.zero_add _
    show wipe ((wipe σ vs).set j (some (.int (0 + (i : Int))))) vs = wipe σ vs ∧ tYes ((wipe σ vs).set j (some (.int (0 + (i : Int))))) H' _
    rw [e0]
    refine ⟨hw _, yesT (he i hi B' H' g.bb g.bh g.hh _ fun v d B2 H2 g2 hv hmd => ?_)⟩
    have f2 : B2 D = none := g2.free f hy
    have upx : Ex B2 (upd H2 D (.lst (ys ++ [v]))) := fun a o h => by
      have : a ≠ D := fun z => by rw [z, f2] at h; cases h
      rw [upd_ne this]
      exact g2.bh a o h
    have up1 : Ex H1 (upd H2 D (.lst (ys ++ [v]))) := Evl.Ex.mut (g.hh.trans g2.hh) hD
    refine ⟨ys, g2.hh _ _ hy, by rw [hl]; exact Evl.sz_lt (by omega), ys ++ [v], ds ++ [d], B2, by simp [hl], ⟨g.bb.trans g2.bb, upx, up1, fun a o h => ?_⟩, f2, upd_same, (hdv.mono g2.bb).app (.cons hv .nil), fun x hx => ?_⟩
    · rcases g2.sep a o h with q | q
      · exact g.sep a o q
      · exact .inr (Evl.fresh_back g.hh q)
    · rcases List.mem_append.mp hx with q | q
      · exact hm x q
      · rcases List.mem_singleton.mp q with rfl
        exact hmd
  · rintro H' ⟨ys, ds, B', hl, g, f, hy, hdv, hm⟩
    exact hd ys ds B' H' hl g hy hdv hm
end
abbrev sLaw : Stmt := topS 45
abbrev nLaw : List Str := ["_law_script", "_law_can", "_law_values", "_law_others", "_law_fields", "_law_errors", "_law_k"]
theorem scLaw : FnScope nLaw ["_law_script"] (defScope sLaw) :=
  ⟨rfl, rfl, rfl, by decide +kernel, rfl, by decide +kernel, by decide +kernel⟩
section
variable {P : Program} {w : World} {K : PySem.W.Frag} {mg : Str → Option Value} {base : Heap} {C : Nat → Addr}
def spLaw (K : PySem.W.Frag) : Sp := fun vs H Q _ => ∃ (a : Addr) (ns : List Int), vs = [.ref a] ∧ SqL K H a (ns.map V.int) ∧ ns.length ≤ 63 ∧ ∀ H', Q (.bl true) H'
theorem ok_law {f : Addr} {fd : FuncData} (hs : HasSys base) (F : Fun K "law" "law" sLaw f fd) (T : Blt mg) (S : Errs P w K mg base C) {tB tH tC' tL tS : Tok} (qBATCH : mg "BATCH" = some (.int 20 tB)) (qHISTORY : mg "HISTORY" = some (.int 30 tH)) (qMAX_CARS : mg "MAX_CARS" = some (.int 40 tC')) (qMAX_LANES : mg "MAX_LANES" = some (.int 6 tL)) (qSMALL : mg "SMALL" = some (.int 8 tS))
    (c_law_opened : Cal P w K mg base 1 "_law_opened" ["_law_script"] (spOpened P w K)) (c_law_odd : Cal P w K mg base 3 "_law_odd" ["_law_can"] (spOdd P w)) (c_law_made : Cal P w K mg base 3 "_law_made" ["_law_values"] (spMade C)) (c_law_alone : Cal P w K mg base 2 "_law_alone" ["_law_errors", "_law_others"] (spAlone C)) :
    FnG P w K mg base 5 f fd ["_law_script"] (spLaw K) := by
  refine fnG F scLaw (fun vs H Q E h => ?_) (fun cdv A outer s H vs Q E hr hg h => ?_)
  · obtain ⟨a, ns, rfl, _⟩ := h
    rfl
  obtain ⟨a, ns, rfl, hS, hlen, kQ⟩ := h
  refine ⟨_, (pss_cons (ps_set (i := 1) scLaw.nd rfl (Or.inr rfl) (pe_cal c_law_opened (hr.mono (by decide)) rfl (pa_cons (pv 0) pa_nil)))
    (pss_cons (ps_setLc (i := 2) (own := [("_law_k", 6)]) (g := gName 6) (by rfl) scLaw.nd rfl rfl (sw_true rfl rfl rfl (by decide +kernel)) (pi_range1 rfl T.range (pa_cons pe_int pa_nil)) (blkOk_by (own := [("_law_k", 6)]) (N := nLaw) (sc := defScope sLaw) (by decide +kernel)) (fun _ _ _ _ _ => (pg_name (i := 6) scLaw.nd rfl (Or.inl rfl))) (fun _ _ _ _ _ => pts_nil) (fun _ _ _ _ _ => (pe_cal c_law_odd (hr.mono (by decide)) rfl (pa_cons (pv 1) pa_nil))))
    (pss_cons (ps_asg (pe_cal c_law_made (hr.mono (by decide)) rfl (pa_cons (pv 2) pa_nil)) (pg_lst rfl (pgs_cons (pg_name (i := 3) scLaw.nd rfl (Or.inl rfl)) (pgs_cons (pg_name (i := 4) scLaw.nd rfl (Or.inl rfl)) pgs_nil))))
    (pss_cons (ps_set (i := 5) scLaw.nd rfl (Or.inl rfl) (pe_lst (pa_cons (pe_mk0 S.e0 rfl) (pa_cons (pe_mk0 S.e1 rfl) (pa_cons (pe_mk0 S.e2 rfl) (pa_cons (pe_mk0 S.e3 rfl) (pa_cons (pe_mk0 S.e4 rfl) (pa_cons (pe_mk0 S.e5 rfl) (pa_cons (pe_mk0 S.e6 rfl) (pa_cons (pe_mk0 S.e7 rfl) pa_nil))))))))))
    (pss_cons (ps_set (i := 5) scLaw.nd rfl (Or.inl rfl) (pe_op op_cat (pv 5) (pe_lst (pa_cons (pe_mk0 S.e8 rfl) (pa_cons (pe_mk0 S.e9 rfl) (pa_cons (pe_mk0 S.e10 rfl) pa_nil))))))
    (pss_cons (ps_if (PW.pt (pw_or (pt_cmpR op_ne (pe_callB (call_reprS hg hr.units hs) rfl T.repr bt_repr (pa_cons (pv 4) pa_nil)) (pe_callB (call_reprS hg hr.units hs) rfl T.repr bt_repr (pa_cons (pv 2) pa_nil)) (nomark _)) (pw_or1 (pt_not (pt_val (pe_cal c_law_alone (hr.mono (by decide)) rfl (pa_cons (pv 5) (pa_cons (pv 3) pa_nil)))))))) (pss_one (ps_ret pe_bl)) pss_nil)
    (pss_one (ps_ret (pe_cmpR op_eq (pe_callB (call_reprS hg hr.units hs) rfl T.repr bt_repr (pa_cons (pe_lst (pa_cons (pe_glob (v := .int 20) rfl qBATCH ⟨_, rfl⟩) (pa_cons (pe_glob (v := .int 30) rfl qHISTORY ⟨_, rfl⟩) (pa_cons (pe_glob (v := .int 40) rfl qMAX_CARS ⟨_, rfl⟩) (pa_cons (pe_glob (v := .int 6) rfl qMAX_LANES ⟨_, rfl⟩) (pa_cons (pe_glob (v := .int 8) rfl qSMALL ⟨_, rfl⟩) pa_nil)))))) pa_nil)) (pe_callB (call_reprS hg hr.units hs) rfl T.repr bt_repr (pa_cons (pe_lst (pa_cons pe_int (pa_cons pe_int (pa_cons pe_int (pa_cons pe_int (pa_cons pe_int pa_nil)))))) pa_nil)) (nomark _)))))))))), ?_⟩
  have z : ∀ m, m ≤ 100 → m ≤ sizeLine := fun m h => Nat.le_trans h (by decide)
  refine ⟨_, rfl, a, ns, rfl, hS, hlen, fun c H0 e0 Cn => ?_⟩
  refine ⟨_, rfl, by decide, by decide, fun D hD => ?_⟩
  refine made_rangeB (n := 18) (B := H0) (fun d => d ∈ oddD) hD (Evl.Ex.refl _) (by decide) (fun _ => rfl) (fun i hi B1 G1 b1 b2 b3 Q1 q1 => ?_) (fun ys ds B1 G1 ly g1 hy hdv hm => ?_)
  · exact ⟨_, rfl, c, B1, rfl, Cn.mono b3, b2, fun v d B2 H2 g hv hd => q1 v d B2 H2 g hv hd⟩
  refine ⟨_, rfl, D, ys, rfl, hy, ly, fun p m q es G2 e2 hp hes hq => ?_⟩
  refine ⟨p, [.ref m, .ref q], rfl, SqL.of hp, rfl, _, _, rfl, _, _, rfl, rfl, ?_⟩
  refine nx_eq (σ' := [some (.ref a), some (.ref c), some (.ref D), some (.ref m), some (.ref q), none, none]) rfl ?_
  have dv := (hdv.mono g1.bh).mono e2
  replace hy := e2 _ _ hy
  refine fun a0 F0 x0 _ r0 => ?_
  replace dv := dv.mono x0
  replace hy := x0 _ _ hy
  replace hq := x0 _ _ hq
  replace hes := hes.mono x0
  refine fun a1 F1 x1 _ r1 => ?_
  replace dv := dv.mono x1
  replace hy := x1 _ _ hy
  replace hq := x1 _ _ hq
  replace hes := hes.mono x1
  replace r0 := r0.mono x1
  refine fun a2 F2 x2 _ r2 => ?_
  replace dv := dv.mono x2
  replace hy := x2 _ _ hy
  replace hq := x2 _ _ hq
  replace hes := hes.mono x2
  replace r0 := r0.mono x2
  replace r1 := r1.mono x2
  refine fun a3 F3 x3 _ r3 => ?_
  replace dv := dv.mono x3
  replace hy := x3 _ _ hy
  replace hq := x3 _ _ hq
  replace hes := hes.mono x3
  replace r0 := r0.mono x3
  replace r1 := r1.mono x3
  replace r2 := r2.mono x3
  refine fun a4 F4 x4 _ r4 => ?_
  replace dv := dv.mono x4
  replace hy := x4 _ _ hy
  replace hq := x4 _ _ hq
  replace hes := hes.mono x4
  replace r0 := r0.mono x4
  replace r1 := r1.mono x4
  replace r2 := r2.mono x4
  replace r3 := r3.mono x4
  refine fun a5 F5 x5 _ r5 => ?_
  replace dv := dv.mono x5
  replace hy := x5 _ _ hy
  replace hq := x5 _ _ hq
  replace hes := hes.mono x5
  replace r0 := r0.mono x5
  replace r1 := r1.mono x5
  replace r2 := r2.mono x5
  replace r3 := r3.mono x5
  replace r4 := r4.mono x5
  refine fun a6 F6 x6 _ r6 => ?_
  replace dv := dv.mono x6
  replace hy := x6 _ _ hy
  replace hq := x6 _ _ hq
  replace hes := hes.mono x6
  replace r0 := r0.mono x6
  replace r1 := r1.mono x6
  replace r2 := r2.mono x6
  replace r3 := r3.mono x6
  replace r4 := r4.mono x6
  replace r5 := r5.mono x6
  refine fun a7 F7 x7 _ r7 => ?_
  replace dv := dv.mono x7
  replace hy := x7 _ _ hy
  replace hq := x7 _ _ hq
  replace hes := hes.mono x7
  replace r0 := r0.mono x7
  replace r1 := r1.mono x7
  replace r2 := r2.mono x7
  replace r3 := r3.mono x7
  replace r4 := r4.mono x7
  replace r5 := r5.mono x7
  replace r6 := r6.mono x7
  refine ⟨z 8 (by decide), fun l1 h1 => ?_⟩
  have y1 := Evl.Ex.new h1 (o := .lst [.ref a0, .ref a1, .ref a2, .ref a3, .ref a4, .ref a5, .ref a6, .ref a7])
  have b1 := upd_same (H := F7) (a := l1) (o := .lst [.ref a0, .ref a1, .ref a2, .ref a3, .ref a4, .ref a5, .ref a6, .ref a7])
  generalize upd F7 l1 (.lst [.ref a0, .ref a1, .ref a2, .ref a3, .ref a4, .ref a5, .ref a6, .ref a7]) = J1 at y1 b1 ⊢
  replace dv := dv.mono y1
  replace hy := y1 _ _ hy
  replace hq := y1 _ _ hq
  replace hes := hes.mono y1
  replace r0 := r0.mono y1
  replace r1 := r1.mono y1
  replace r2 := r2.mono y1
  replace r3 := r3.mono y1
  replace r4 := r4.mono y1
  replace r5 := r5.mono y1
  replace r6 := r6.mono y1
  replace r7 := r7.mono y1
  refine ⟨_, rfl, ?_⟩
  refine fun a8 F8 x8 _ r8 => ?_
  replace dv := dv.mono x8
  replace hy := x8 _ _ hy
  replace hq := x8 _ _ hq
  replace hes := hes.mono x8
  replace r0 := r0.mono x8
  replace r1 := r1.mono x8
  replace r2 := r2.mono x8
  replace r3 := r3.mono x8
  replace r4 := r4.mono x8
  replace r5 := r5.mono x8
  replace r6 := r6.mono x8
  replace r7 := r7.mono x8
  replace b1 := x8 _ _ b1
  refine fun a9 F9 x9 _ r9 => ?_
  replace dv := dv.mono x9
  replace hy := x9 _ _ hy
  replace hq := x9 _ _ hq
  replace hes := hes.mono x9
  replace r0 := r0.mono x9
  replace r1 := r1.mono x9
  replace r2 := r2.mono x9
  replace r3 := r3.mono x9
  replace r4 := r4.mono x9
  replace r5 := r5.mono x9
  replace r6 := r6.mono x9
  replace r7 := r7.mono x9
  replace r8 := r8.mono x9
  replace b1 := x9 _ _ b1
  refine fun a10 F10 x10 _ r10 => ?_
  replace dv := dv.mono x10
  replace hy := x10 _ _ hy
  replace hq := x10 _ _ hq
  replace hes := hes.mono x10
  replace r0 := r0.mono x10
  replace r1 := r1.mono x10
  replace r2 := r2.mono x10
  replace r3 := r3.mono x10
  replace r4 := r4.mono x10
  replace r5 := r5.mono x10
  replace r6 := r6.mono x10
  replace r7 := r7.mono x10
  replace r8 := r8.mono x10
  replace r9 := r9.mono x10
  replace b1 := x10 _ _ b1
  refine ⟨z 3 (by decide), fun q2 h2 => cat_new b1 h2 (z 11 (by decide)) fun l2 J2 y2 _ b2 => ?_⟩
  replace dv := dv.mono y2
  replace hy := y2 _ _ hy
  replace hq := y2 _ _ hq
  replace hes := hes.mono y2
  replace r0 := r0.mono y2
  replace r1 := r1.mono y2
  replace r2 := r2.mono y2
  replace r3 := r3.mono y2
  replace r4 := r4.mono y2
  replace r5 := r5.mono y2
  replace r6 := r6.mono y2
  replace r7 := r7.mono y2
  replace r8 := r8.mono y2
  replace r9 := r9.mono y2
  replace r10 := r10.mono y2
  have w : ∀ i : Nat, i < 11 → ∀ v, ([.ref a0, .ref a1, .ref a2, .ref a3, .ref a4, .ref a5, .ref a6, .ref a7, .ref a8, .ref a9, .ref a10] : List V)[i]? = some v → ∃ e o, v = .ref e ∧ ErAt J2 e (C (0 + i)) o := fun i hi => match i, hi with
    | 0, _ => fun v h => ⟨a0, none, (Option.some.inj h).symm, r0⟩
    | 1, _ => fun v h => ⟨a1, none, (Option.some.inj h).symm, r1⟩
    | 2, _ => fun v h => ⟨a2, none, (Option.some.inj h).symm, r2⟩
    | 3, _ => fun v h => ⟨a3, none, (Option.some.inj h).symm, r3⟩
    | 4, _ => fun v h => ⟨a4, none, (Option.some.inj h).symm, r4⟩
    | 5, _ => fun v h => ⟨a5, none, (Option.some.inj h).symm, r5⟩
    | 6, _ => fun v h => ⟨a6, none, (Option.some.inj h).symm, r6⟩
    | 7, _ => fun v h => ⟨a7, none, (Option.some.inj h).symm, r7⟩
    | 8, _ => fun v h => ⟨a8, none, (Option.some.inj h).symm, r8⟩
    | 9, _ => fun v h => ⟨a9, none, (Option.some.inj h).symm, r9⟩
    | 10, _ => fun v h => ⟨a10, none, (Option.some.inj h).symm, r10⟩
    | i + 11, h => absurd h (by omega)
  have hers : ErsAt C J2 l2 0 11 [.ref a0, .ref a1, .ref a2, .ref a3, .ref a4, .ref a5, .ref a6, .ref a7, .ref a8, .ref a9, .ref a10] := ⟨b2, rfl, fun i v hi => w i (List.getElem?_eq_some_iff.mp hi).1 v hi⟩
  have fit : Fit (.list ds) := (sh_lst (m := 60) (k := 2) (c := 18) (fun e he => odd_sh e (hm e he)) (by have := dv.len; omega)).fit (by decide) (by decide)
  refine ⟨_, rfl, .ref q, .list ds, rfl, .lst hq dv, fit, _, rfl, .ref D, .list ds, rfl, .lst hy dv, fit, rfl, _, rfl, ?_⟩
  rw [decide_eq_true rfl]
  show ite _ _ _
  rw [if_neg (by decide)]
  refine ⟨_, rfl, _, rfl, l2, m, _, es, rfl, hers, hes, fun J3 y3 => ⟨_, rfl, ?_⟩⟩
  show ite _ _ _
  rw [if_neg (by decide)]
  have f5 : Fit (.list [.int 20, .int 30, .int 40, .int 6, .int 8]) := (sh_lst (m := 20) (k := 0) (c := 5) (fun e he => by
    simp only [List.mem_cons, List.not_mem_nil, or_false] at he
    rcases he with rfl | rfl | rfl | rfl | rfl <;> exact int_sh (by decide)) (by decide)).fit (by decide) (by decide)
  refine ⟨z 5 (by decide), fun s1 k1 => ⟨.ref s1, .list [.int 20, .int 30, .int 40, .int 6, .int 8], rfl, .lst upd_same (.cons (.int _) (.cons (.int _) (.cons (.int _) (.cons (.int _) (.cons (.int _) .nil))))), f5, z 5 (by decide), fun s2 k2 => ⟨.ref s2, .list [.int 20, .int 30, .int 40, .int 6, .int 8], rfl, .lst upd_same (.cons (.int _) (.cons (.int _) (.cons (.int _) (.cons (.int _) (.cons (.int _) .nil))))), f5, rfl, ?_⟩⟩⟩
  rw [decide_eq_true rfl]
  exact kQ _
end
end Lr

namespace Lr
open PySem L2
/-! ### the facts of the classes as answers of the written part -/
def oexB (K : PySem.W.Frag) (C : Addr) : Bool := match K.lookup C with
  | some ⟨.type "type", _, .cls cd, sl⟩ => (match cd.mro, sl.toList with
    | .ref C' :: bm, [_, _, _, _, some (.builtin n), _] => C' == C && n == "ValueError.__new__" && !cd.hasDel && cd.hasDict && PySem.HandSPX.refsVE bm
    | _, _ => false)
  | _ => false
theorem oexB_ok {K : PySem.W.Frag} {C : Addr} (q : oexB K C = true) : ∃ nm qn N bs bm sn sub ab col dd k0 k1 k2 k3 k5, K.lookup C = some (excClassObj nm qn C N bs bm true sn sub ab col dd k0 k1 k2 k3 k5 "ValueError.__new__") ∧ PySem.HandSPX.refsVE bm = true := by
  unfold oexB at q
  split at q
  · rename_i dd cd sl ho
    split at q
    · rename_i C' bm k0 k1 k2 k3 n k5 hm hs
      simp only [Bool.and_eq_true, beq_iff_eq, Bool.not_eq_true'] at q
      obtain ⟨⟨⟨⟨rfl, rfl⟩, hdel⟩, hd⟩, ht⟩ := q
      obtain ⟨nm, bs, mro, ns, qn, hdc, sn, sub, ab, col, del⟩ := cd
      dsimp only at hm hdel hd
      subst hm hdel hd
      have hsl : sl = #[k0, k1, k2, k3, some (.builtin "ValueError.__new__"), k5] := by
        obtain ⟨l⟩ := sl
        simp only at hs
        rw [hs]
      subst hsl
      exact ⟨nm, qn, ns, bs, bm, sn, sub, ab, col, dd, k0, k1, k2, k3, k5, ho, ht⟩
    · cases q
  · cases q
def e1B (K : PySem.W.Frag) (C : Addr) (f : Str) : Bool := oexB K C && (isCB K C && (PySem.W.hasDictIn K C && (decide (PySem.W.findIn K (.ref C) "__setattr__" = some (some (.builtin "object.__setattr__"))) && (decide (PySem.W.typeIn K (.ref C) = some (.type "type")) && (PySem.W.keepIn K (.ref C) && decide (PySem.W.findIn K (.ref C) f = some none))))))
theorem er1_of {P : Program} {w : World} {K : PySem.W.Frag} {mg : Str → Option Value} {base : Heap} {x f : Str} {C fI : Addr} {fd : FuncData} (hm : mg x = some (.ref C)) (h : e1B K C f = true) (iC : PySem.W.findIn K (.ref C) "__init__" = some (some (.ref fI))) (tI : PySem.W.typeIn K (.ref fI) = some (.type "function"))
    (F : FnOk P w K mg base CX0 1 fI fd ["self", f] (spInit K f)) (b : Binds K fd ["self", f] []) : Er1 P w K mg base x C f := by
  obtain ⟨h1, h⟩ := Bool.and_eq_true_iff.mp h
  obtain ⟨h2, h⟩ := Bool.and_eq_true_iff.mp h
  obtain ⟨h3, h⟩ := Bool.and_eq_true_iff.mp h
  obtain ⟨h4, h⟩ := Bool.and_eq_true_iff.mp h
  obtain ⟨h5, h⟩ := Bool.and_eq_true_iff.mp h
  obtain ⟨h6, h7⟩ := Bool.and_eq_true_iff.mp h
  have I := isCB_ok h2
  exact ⟨⟨oexB_ok h1, of_decide_eq_true h4, I.sb, of_decide_eq_true h5, h6⟩, hm, of_decide_eq_true h7, ⟨I.ga, I.gg, I.sb, h3⟩, I, fI, fd, iC, tI, F, b⟩
theorem e1B_is {K : PySem.W.Frag} {C : Addr} {f : Str} (h : e1B K C f = true) : IsC K C := isCB_ok (Bool.and_eq_true_iff.mp (Bool.and_eq_true_iff.mp h).2).1
def kitT (K : PySem.W.Frag) (cs : List Addr) : Bool := (List.range 29).all fun n => ((List.range 29).all fun m => PySem.W.kitOne K (.ref (cs.getD n 0)) (.ref (cs.getD m 0)) == some (n == m)) && (PySem.W.kitOne K (.ref (cs.getD n 0)) (.ref (cs.getD 29 0)) == some true && PySem.W.kitOne K (.ref (cs.getD n 0)) (.type "ValueError") == some true)
theorem kitT_ok {K : PySem.W.Frag} {cs : List Addr} (h : kitT K cs = true) (n : Nat) (hn : n < 29) : (∀ m < 29, PySem.W.kitOne K (.ref (cs.getD n 0)) (.ref (cs.getD m 0)) = some (n == m)) ∧ PySem.W.kitOne K (.ref (cs.getD n 0)) (.ref (cs.getD 29 0)) = some true ∧ PySem.W.kitOne K (.ref (cs.getD n 0)) (.type "ValueError") = some true := by
  have q := List.all_eq_true.mp h n (List.mem_range.mpr hn)
  obtain ⟨q1, q⟩ := Bool.and_eq_true_iff.mp q
  obtain ⟨q2, q3⟩ := Bool.and_eq_true_iff.mp q
  exact ⟨fun m hm => beq_iff_eq.mp (List.all_eq_true.mp q1 m (List.mem_range.mpr hm)), beq_iff_eq.mp q2, beq_iff_eq.mp q3⟩
end Lr

namespace Lr
open PySem L2
theorem all_mk {l : PySem.W.OpenLaw} {w : World} {K : PySem.W.Frag} {h : Heap} {mg : Str → Option Value} {fa f1 f2 f3 f4 f5 f6 f7 f8 f9 : Addr} (X : K.In h) (G : h.Ns mainGlobals mg) (hfa : mg "law" = some (.ref fa))
    {od1 od2 od3 od4 od5 od6 od7 od8 od9 an1 an2 an3 an4 an5 an6 an7 an8 an9 : Option Addr}
    {sl1 sl2 sl3 sl4 sl5 sl6 sl7 sl8 sl9 : Array (Option Value)}
    {oc1 kV1 dc1 pm1 cd1 ct1 oc2 kV2 dc2 pm2 cd2 ct2 oc3 kV3 dc3 pm3 cd3 ct3 oc4 kV4 dc4 pm4 cd4 ct4 oc5 kV5 dc5 pm5 cd5 ct5 oc6 kV6 dc6 pm6 cd6 ct6 oc7 kV7 dc7 pm7 cd7 ct7 oc8 kV8 dc8 pm8 cd8 ct8 oc9 kV9 dc9 pm9 cd9 ct9 : Value}
    {tBATCH tHISTORY tMAX_CARS tMAX_LANES tSMALL : Tok}
    {c0 c1 c2 c3 c4 c5 c6 c7 c8 c9 c10 c11 c12 c13 c14 c15 c16 c17 c18 c19 c20 c21 c22 c23 c24 c25 c26 c27 c28 c29 g11 g12 g13 g14 g15 g16 g17 g18 g19 g20 g21 g22 g23 g24 g25 g26 g27 g28 : Addr}
    {god11 gan11 god12 gan12 god13 gan13 god14 gan14 god15 gan15 god16 gan16 god17 gan17 god18 gan18 god19 gan19 god20 gan20 god21 gan21 god22 gan22 god23 gan23 god24 gan24 god25 gan25 god26 gan26 god27 gan27 god28 gan28 : Option Addr}
    {gsl11 gsl12 gsl13 gsl14 gsl15 gsl16 gsl17 gsl18 gsl19 gsl20 gsl21 gsl22 gsl23 gsl24 gsl25 gsl26 gsl27 gsl28 : Array (Option Value)}
    {goc11 gkV11 gdc11 gpm11 gcd11 gct11 goc12 gkV12 gdc12 gpm12 gcd12 gct12 goc13 gkV13 gdc13 gpm13 gcd13 gct13 goc14 gkV14 gdc14 gpm14 gcd14 gct14 goc15 gkV15 gdc15 gpm15 gcd15 gct15 goc16 gkV16 gdc16 gpm16 gcd16 gct16 goc17 gkV17 gdc17 gpm17 gcd17 gct17 goc18 gkV18 gdc18 gpm18 gcd18 gct18 goc19 gkV19 gdc19 gpm19 gcd19 gct19 goc20 gkV20 gdc20 gpm20 gcd20 gct20 goc21 gkV21 gdc21 gpm21 gcd21 gct21 goc22 gkV22 gdc22 gpm22 gcd22 gct22 goc23 gkV23 gdc23 gpm23 gcd23 gct23 goc24 gkV24 gdc24 gpm24 gcd24 gct24 goc25 gkV25 gdc25 gpm25 gcd25 gct25 goc26 gkV26 gdc26 gpm26 gcd26 gct26 goc27 gkV27 gdc27 gpm27 gcd27 gct27 goc28 gkV28 gdc28 gpm28 gcd28 gct28 : Value}
    (a1 : PySem.W.nsIn K mainGlobals "_law_opened" = some (some (.ref f1)))
    (l1 : K.lookup f1 = some ⟨oc1, od1, .func (PySem.W.fnOf "_law_opened" "_law_opened" (defArgs sOpened) (defBody sOpened) (defScope sOpened) .none kV1 dc1 pm1 an1 cd1 ct1), sl1⟩)
    (d1 : PySem.W.codeIn K cd1 "_law_opened" = true)
    (k1 : PySem.W.keepIn K (.ref f1) = true)
    (a2 : PySem.W.nsIn K mainGlobals "_law_roll" = some (some (.ref f2)))
    (l2 : K.lookup f2 = some ⟨oc2, od2, .func (PySem.W.fnOf "_law_roll" "_law_roll" (defArgs sRoll) (defBody sRoll) (defScope sRoll) .none kV2 dc2 pm2 an2 cd2 ct2), sl2⟩)
    (d2 : PySem.W.codeIn K cd2 "_law_roll" = true)
    (k2 : PySem.W.keepIn K (.ref f2) = true)
    (a3 : PySem.W.nsIn K mainGlobals "_law_one" = some (some (.ref f3)))
    (l3 : K.lookup f3 = some ⟨oc3, od3, .func (PySem.W.fnOf "_law_one" "_law_one" (defArgs sOne) (defBody sOne) (defScope sOne) .none kV3 dc3 pm3 an3 cd3 ct3), sl3⟩)
    (d3 : PySem.W.codeIn K cd3 "_law_one" = true)
    (k3 : PySem.W.keepIn K (.ref f3) = true)
    (a4 : PySem.W.nsIn K mainGlobals "_law_odd" = some (some (.ref f4)))
    (l4 : K.lookup f4 = some ⟨oc4, od4, .func (PySem.W.fnOf "_law_odd" "_law_odd" (defArgs sOdd) (defBody sOdd) (defScope sOdd) .none kV4 dc4 pm4 an4 cd4 ct4), sl4⟩)
    (d4 : PySem.W.codeIn K cd4 "_law_odd" = true)
    (k4 : PySem.W.keepIn K (.ref f4) = true)
    (a5 : PySem.W.nsIn K mainGlobals "_law_plain" = some (some (.ref f5)))
    (l5 : K.lookup f5 = some ⟨oc5, od5, .func (PySem.W.fnOf "_law_plain" "_law_plain" (defArgs sPlain) (defBody sPlain) (defScope sPlain) .none kV5 dc5 pm5 an5 cd5 ct5), sl5⟩)
    (d5 : PySem.W.codeIn K cd5 "_law_plain" = true)
    (k5 : PySem.W.keepIn K (.ref f5) = true)
    (a6 : PySem.W.nsIn K mainGlobals "_law_filled" = some (some (.ref f6)))
    (l6 : K.lookup f6 = some ⟨oc6, od6, .func (PySem.W.fnOf "_law_filled" "_law_filled" (defArgs sFilled) (defBody sFilled) (defScope sFilled) .none kV6 dc6 pm6 an6 cd6 ct6), sl6⟩)
    (d6 : PySem.W.codeIn K cd6 "_law_filled" = true)
    (k6 : PySem.W.keepIn K (.ref f6) = true)
    (a7 : PySem.W.nsIn K mainGlobals "_law_alone" = some (some (.ref f7)))
    (l7 : K.lookup f7 = some ⟨oc7, od7, .func (PySem.W.fnOf "_law_alone" "_law_alone" (defArgs sAlone) (defBody sAlone) (defScope sAlone) .none kV7 dc7 pm7 an7 cd7 ct7), sl7⟩)
    (d7 : PySem.W.codeIn K cd7 "_law_alone" = true)
    (k7 : PySem.W.keepIn K (.ref f7) = true)
    (a8 : PySem.W.nsIn K mainGlobals "_law_made" = some (some (.ref f8)))
    (l8 : K.lookup f8 = some ⟨oc8, od8, .func (PySem.W.fnOf "_law_made" "_law_made" (defArgs sMade) (defBody sMade) (defScope sMade) .none kV8 dc8 pm8 an8 cd8 ct8), sl8⟩)
    (d8 : PySem.W.codeIn K cd8 "_law_made" = true)
    (k8 : PySem.W.keepIn K (.ref f8) = true)
    (a9 : PySem.W.nsIn K mainGlobals "law" = some (some (.ref f9)))
    (l9 : K.lookup f9 = some ⟨oc9, od9, .func (PySem.W.fnOf "law" "law" (defArgs sLaw) (defBody sLaw) (defScope sLaw) .none kV9 dc9 pm9 an9 cd9 ct9), sl9⟩)
    (d9 : PySem.W.codeIn K cd9 "law" = true)
    (k9 : PySem.W.keepIn K (.ref f9) = true)
    (zlen : PySem.W.nsIn K mainGlobals "len" = some none)
    (zrange : PySem.W.nsIn K mainGlobals "range" = some none)
    (ztuple : PySem.W.nsIn K mainGlobals "tuple" = some none)
    (zlist : PySem.W.nsIn K mainGlobals "list" = some none)
    (zabs : PySem.W.nsIn K mainGlobals "abs" = some none)
    (zint : PySem.W.nsIn K mainGlobals "int" = some none)
    (zstr : PySem.W.nsIn K mainGlobals "str" = some none)
    (zbool : PySem.W.nsIn K mainGlobals "bool" = some none)
    (zrepr : PySem.W.nsIn K mainGlobals "repr" = some none)
    (zisinstance : PySem.W.nsIn K mainGlobals "isinstance" = some none)
    (zenumerate : PySem.W.nsIn K mainGlobals "enumerate" = some none)
    (zsorted : PySem.W.nsIn K mainGlobals "sorted" = some none)
    (zset : PySem.W.nsIn K mainGlobals "set" = some none)
    (zall : PySem.W.nsIn K mainGlobals "all" = some none)
    (zmin : PySem.W.nsIn K mainGlobals "min" = some none)
    (zmax : PySem.W.nsIn K mainGlobals "max" = some none)
    (zany : PySem.W.nsIn K mainGlobals "any" = some none)
    (zzip : PySem.W.nsIn K mainGlobals "zip" = some none)
    (zsum : PySem.W.nsIn K mainGlobals "sum" = some none)
    (zreversed : PySem.W.nsIn K mainGlobals "reversed" = some none)
    (zValueError : PySem.W.nsIn K mainGlobals "ValueError" = some none)
    (qBATCH : PySem.W.nsIn K mainGlobals "BATCH" = some (some (.int 20 tBATCH)))
    (qHISTORY : PySem.W.nsIn K mainGlobals "HISTORY" = some (some (.int 30 tHISTORY)))
    (qMAX_CARS : PySem.W.nsIn K mainGlobals "MAX_CARS" = some (some (.int 40 tMAX_CARS)))
    (qMAX_LANES : PySem.W.nsIn K mainGlobals "MAX_LANES" = some (some (.int 6 tMAX_LANES)))
    (qSMALL : PySem.W.nsIn K mainGlobals "SMALL" = some (some (.int 8 tSMALL)))
    (n0 : PySem.W.nsIn K mainGlobals "BadBatch" = some (some (.ref c0)))
    (n1 : PySem.W.nsIn K mainGlobals "Busy" = some (some (.ref c1)))
    (n2 : PySem.W.nsIn K mainGlobals "Empty" = some (some (.ref c2)))
    (n3 : PySem.W.nsIn K mainGlobals "Impossible" = some (some (.ref c3)))
    (n4 : PySem.W.nsIn K mainGlobals "NoHistory" = some (some (.ref c4)))
    (n5 : PySem.W.nsIn K mainGlobals "NoOrder" = some (some (.ref c5)))
    (n6 : PySem.W.nsIn K mainGlobals "NoPreference" = some (some (.ref c6)))
    (n7 : PySem.W.nsIn K mainGlobals "NoRule" = some (some (.ref c7)))
    (n8 : PySem.W.nsIn K mainGlobals "NothingToUndo" = some (some (.ref c8)))
    (n9 : PySem.W.nsIn K mainGlobals "OtherOrder" = some (some (.ref c9)))
    (n10 : PySem.W.nsIn K mainGlobals "TooManyEdits" = some (some (.ref c10)))
    (n11 : PySem.W.nsIn K mainGlobals "Absent" = some (some (.ref c11)))
    (i11 : PySem.W.findIn K (.ref c11) "__init__" = some (some (.ref g11)))
    (t11 : PySem.W.typeIn K (.ref g11) = some (.type "function"))
    (m11 : K.lookup g11 = some ⟨goc11, god11, .func (PySem.W.fnOf "__init__" "Absent.__init__" (defArgs siAbsent) (defBody siAbsent) (defScope siAbsent) .none gkV11 gdc11 gpm11 gan11 gcd11 gct11), gsl11⟩)
    (w11 : PySem.W.codeIn K gcd11 "Absent.__init__" = true)
    (v11 : PySem.W.keepIn K (.ref g11) = true)
    (n12 : PySem.W.nsIn K mainGlobals "BadCount" = some (some (.ref c12)))
    (i12 : PySem.W.findIn K (.ref c12) "__init__" = some (some (.ref g12)))
    (t12 : PySem.W.typeIn K (.ref g12) = some (.type "function"))
    (m12 : K.lookup g12 = some ⟨goc12, god12, .func (PySem.W.fnOf "__init__" "BadCount.__init__" (defArgs siBadCount) (defBody siBadCount) (defScope siBadCount) .none gkV12 gdc12 gpm12 gan12 gcd12 gct12), gsl12⟩)
    (w12 : PySem.W.codeIn K gcd12 "BadCount.__init__" = true)
    (v12 : PySem.W.keepIn K (.ref g12) = true)
    (n13 : PySem.W.nsIn K mainGlobals "BadDay" = some (some (.ref c13)))
    (i13 : PySem.W.findIn K (.ref c13) "__init__" = some (some (.ref g13)))
    (t13 : PySem.W.typeIn K (.ref g13) = some (.type "function"))
    (m13 : K.lookup g13 = some ⟨goc13, god13, .func (PySem.W.fnOf "__init__" "BadDay.__init__" (defArgs siBadDay) (defBody siBadDay) (defScope siBadDay) .none gkV13 gdc13 gpm13 gan13 gcd13 gct13), gsl13⟩)
    (w13 : PySem.W.codeIn K gcd13 "BadDay.__init__" = true)
    (v13 : PySem.W.keepIn K (.ref g13) = true)
    (n14 : PySem.W.nsIn K mainGlobals "BadRow" = some (some (.ref c14)))
    (i14 : PySem.W.findIn K (.ref c14) "__init__" = some (some (.ref g14)))
    (t14 : PySem.W.typeIn K (.ref g14) = some (.type "function"))
    (m14 : K.lookup g14 = some ⟨goc14, god14, .func (PySem.W.fnOf "__init__" "BadRow.__init__" (defArgs siBadRow) (defBody siBadRow) (defScope siBadRow) .none gkV14 gdc14 gpm14 gan14 gcd14 gct14), gsl14⟩)
    (w14 : PySem.W.codeIn K gcd14 "BadRow.__init__" = true)
    (v14 : PySem.W.keepIn K (.ref g14) = true)
    (n15 : PySem.W.nsIn K mainGlobals "BadRule" = some (some (.ref c15)))
    (i15 : PySem.W.findIn K (.ref c15) "__init__" = some (some (.ref g15)))
    (t15 : PySem.W.typeIn K (.ref g15) = some (.type "function"))
    (m15 : K.lookup g15 = some ⟨goc15, god15, .func (PySem.W.fnOf "__init__" "BadRule.__init__" (defArgs siBadRule) (defBody siBadRule) (defScope siBadRule) .none gkV15 gdc15 gpm15 gan15 gcd15 gct15), gsl15⟩)
    (w15 : PySem.W.codeIn K gcd15 "BadRule.__init__" = true)
    (v15 : PySem.W.keepIn K (.ref g15) = true)
    (n16 : PySem.W.nsIn K mainGlobals "BadText" = some (some (.ref c16)))
    (i16 : PySem.W.findIn K (.ref c16) "__init__" = some (some (.ref g16)))
    (t16 : PySem.W.typeIn K (.ref g16) = some (.type "function"))
    (m16 : K.lookup g16 = some ⟨goc16, god16, .func (PySem.W.fnOf "__init__" "BadText.__init__" (defArgs siBadText) (defBody siBadText) (defScope siBadText) .none gkV16 gdc16 gpm16 gan16 gcd16 gct16), gsl16⟩)
    (w16 : PySem.W.codeIn K gcd16 "BadText.__init__" = true)
    (v16 : PySem.W.keepIn K (.ref g16) = true)
    (n17 : PySem.W.nsIn K mainGlobals "BadWish" = some (some (.ref c17)))
    (i17 : PySem.W.findIn K (.ref c17) "__init__" = some (some (.ref g17)))
    (t17 : PySem.W.typeIn K (.ref g17) = some (.type "function"))
    (m17 : K.lookup g17 = some ⟨goc17, god17, .func (PySem.W.fnOf "__init__" "BadWish.__init__" (defArgs siBadWish) (defBody siBadWish) (defScope siBadWish) .none gkV17 gdc17 gpm17 gan17 gcd17 gct17), gsl17⟩)
    (w17 : PySem.W.codeIn K gcd17 "BadWish.__init__" = true)
    (v17 : PySem.W.keepIn K (.ref g17) = true)
    (n18 : PySem.W.nsIn K mainGlobals "BadWord" = some (some (.ref c18)))
    (i18 : PySem.W.findIn K (.ref c18) "__init__" = some (some (.ref g18)))
    (t18 : PySem.W.typeIn K (.ref g18) = some (.type "function"))
    (m18 : K.lookup g18 = some ⟨goc18, god18, .func (PySem.W.fnOf "__init__" "BadWord.__init__" (defArgs siBadWord) (defBody siBadWord) (defScope siBadWord) .none gkV18 gdc18 gpm18 gan18 gcd18 gct18), gsl18⟩)
    (w18 : PySem.W.codeIn K gcd18 "BadWord.__init__" = true)
    (v18 : PySem.W.keepIn K (.ref g18) = true)
    (n19 : PySem.W.nsIn K mainGlobals "NoCar" = some (some (.ref c19)))
    (i19 : PySem.W.findIn K (.ref c19) "__init__" = some (some (.ref g19)))
    (t19 : PySem.W.typeIn K (.ref g19) = some (.type "function"))
    (m19 : K.lookup g19 = some ⟨goc19, god19, .func (PySem.W.fnOf "__init__" "NoCar.__init__" (defArgs siNoCar) (defBody siNoCar) (defScope siNoCar) .none gkV19 gdc19 gpm19 gan19 gcd19 gct19), gsl19⟩)
    (w19 : PySem.W.codeIn K gcd19 "NoCar.__init__" = true)
    (v19 : PySem.W.keepIn K (.ref g19) = true)
    (n20 : PySem.W.nsIn K mainGlobals "NoCount" = some (some (.ref c20)))
    (i20 : PySem.W.findIn K (.ref c20) "__init__" = some (some (.ref g20)))
    (t20 : PySem.W.typeIn K (.ref g20) = some (.type "function"))
    (m20 : K.lookup g20 = some ⟨goc20, god20, .func (PySem.W.fnOf "__init__" "NoCount.__init__" (defArgs siNoCount) (defBody siNoCount) (defScope siNoCount) .none gkV20 gdc20 gpm20 gan20 gcd20 gct20), gsl20⟩)
    (w20 : PySem.W.codeIn K gcd20 "NoCount.__init__" = true)
    (v20 : PySem.W.keepIn K (.ref g20) = true)
    (n21 : PySem.W.nsIn K mainGlobals "NoIndex" = some (some (.ref c21)))
    (i21 : PySem.W.findIn K (.ref c21) "__init__" = some (some (.ref g21)))
    (t21 : PySem.W.typeIn K (.ref g21) = some (.type "function"))
    (m21 : K.lookup g21 = some ⟨goc21, god21, .func (PySem.W.fnOf "__init__" "NoIndex.__init__" (defArgs siNoIndex) (defBody siNoIndex) (defScope siNoIndex) .none gkV21 gdc21 gpm21 gan21 gcd21 gct21), gsl21⟩)
    (w21 : PySem.W.codeIn K gcd21 "NoIndex.__init__" = true)
    (v21 : PySem.W.keepIn K (.ref g21) = true)
    (n22 : PySem.W.nsIn K mainGlobals "NoLane" = some (some (.ref c22)))
    (i22 : PySem.W.findIn K (.ref c22) "__init__" = some (some (.ref g22)))
    (t22 : PySem.W.typeIn K (.ref g22) = some (.type "function"))
    (m22 : K.lookup g22 = some ⟨goc22, god22, .func (PySem.W.fnOf "__init__" "NoLane.__init__" (defArgs siNoLane) (defBody siNoLane) (defScope siNoLane) .none gkV22 gdc22 gpm22 gan22 gcd22 gct22), gsl22⟩)
    (w22 : PySem.W.codeIn K gcd22 "NoLane.__init__" = true)
    (v22 : PySem.W.keepIn K (.ref g22) = true)
    (n23 : PySem.W.nsIn K mainGlobals "NoPair" = some (some (.ref c23)))
    (i23 : PySem.W.findIn K (.ref c23) "__init__" = some (some (.ref g23)))
    (t23 : PySem.W.typeIn K (.ref g23) = some (.type "function"))
    (m23 : K.lookup g23 = some ⟨goc23, god23, .func (PySem.W.fnOf "__init__" "NoPair.__init__" (defArgs siNoPair) (defBody siNoPair) (defScope siNoPair) .none gkV23 gdc23 gpm23 gan23 gcd23 gct23), gsl23⟩)
    (w23 : PySem.W.codeIn K gcd23 "NoPair.__init__" = true)
    (v23 : PySem.W.keepIn K (.ref g23) = true)
    (n24 : PySem.W.nsIn K mainGlobals "NoVersion" = some (some (.ref c24)))
    (i24 : PySem.W.findIn K (.ref c24) "__init__" = some (some (.ref g24)))
    (t24 : PySem.W.typeIn K (.ref g24) = some (.type "function"))
    (m24 : K.lookup g24 = some ⟨goc24, god24, .func (PySem.W.fnOf "__init__" "NoVersion.__init__" (defArgs siNoVersion) (defBody siNoVersion) (defScope siNoVersion) .none gkV24 gdc24 gpm24 gan24 gcd24 gct24), gsl24⟩)
    (w24 : PySem.W.codeIn K gcd24 "NoVersion.__init__" = true)
    (v24 : PySem.W.keepIn K (.ref g24) = true)
    (n25 : PySem.W.nsIn K mainGlobals "OtherLanes" = some (some (.ref c25)))
    (i25 : PySem.W.findIn K (.ref c25) "__init__" = some (some (.ref g25)))
    (t25 : PySem.W.typeIn K (.ref g25) = some (.type "function"))
    (m25 : K.lookup g25 = some ⟨goc25, god25, .func (PySem.W.fnOf "__init__" "OtherLanes.__init__" (defArgs siOtherLanes) (defBody siOtherLanes) (defScope siOtherLanes) .none gkV25 gdc25 gpm25 gan25 gcd25 gct25), gsl25⟩)
    (w25 : PySem.W.codeIn K gcd25 "OtherLanes.__init__" = true)
    (v25 : PySem.W.keepIn K (.ref g25) = true)
    (n26 : PySem.W.nsIn K mainGlobals "PassedOver" = some (some (.ref c26)))
    (i26 : PySem.W.findIn K (.ref c26) "__init__" = some (some (.ref g26)))
    (t26 : PySem.W.typeIn K (.ref g26) = some (.type "function"))
    (m26 : K.lookup g26 = some ⟨goc26, god26, .func (PySem.W.fnOf "__init__" "PassedOver.__init__" (defArgs siPassedOver) (defBody siPassedOver) (defScope siPassedOver) .none gkV26 gdc26 gpm26 gan26 gcd26 gct26), gsl26⟩)
    (w26 : PySem.W.codeIn K gcd26 "PassedOver.__init__" = true)
    (v26 : PySem.W.keepIn K (.ref g26) = true)
    (n27 : PySem.W.nsIn K mainGlobals "Rejected" = some (some (.ref c27)))
    (i27 : PySem.W.findIn K (.ref c27) "__init__" = some (some (.ref g27)))
    (t27 : PySem.W.typeIn K (.ref g27) = some (.type "function"))
    (m27 : K.lookup g27 = some ⟨goc27, god27, .func (PySem.W.fnOf "__init__" "Rejected.__init__" (defArgs siRejected) (defBody siRejected) (defScope siRejected) .none gkV27 gdc27 gpm27 gan27 gcd27 gct27), gsl27⟩)
    (w27 : PySem.W.codeIn K gcd27 "Rejected.__init__" = true)
    (v27 : PySem.W.keepIn K (.ref g27) = true)
    (n28 : PySem.W.nsIn K mainGlobals "TooLarge" = some (some (.ref c28)))
    (i28 : PySem.W.findIn K (.ref c28) "__init__" = some (some (.ref g28)))
    (t28 : PySem.W.typeIn K (.ref g28) = some (.type "function"))
    (m28 : K.lookup g28 = some ⟨goc28, god28, .func (PySem.W.fnOf "__init__" "TooLarge.__init__" (defArgs siTooLarge) (defBody siTooLarge) (defScope siTooLarge) .none gkV28 gdc28 gpm28 gan28 gcd28 gct28), gsl28⟩)
    (w28 : PySem.W.codeIn K gcd28 "TooLarge.__init__" = true)
    (v28 : PySem.W.keepIn K (.ref g28) = true)
    (n29 : PySem.W.nsIn K mainGlobals "PassError" = some (some (.ref c29)))
    (y0 : PySem.W.keepIn K (.ref c0) = true)
    (x0 : (PySem.W.excIn K c0 PySem.HandSPX.veTail "ValueError.__new__" && isCB K c0) = true)
    (y1 : PySem.W.keepIn K (.ref c1) = true)
    (x1 : (PySem.W.excIn K c1 PySem.HandSPX.veTail "ValueError.__new__" && isCB K c1) = true)
    (y2 : PySem.W.keepIn K (.ref c2) = true)
    (x2 : (PySem.W.excIn K c2 PySem.HandSPX.veTail "ValueError.__new__" && isCB K c2) = true)
    (y3 : PySem.W.keepIn K (.ref c3) = true)
    (x3 : (PySem.W.excIn K c3 PySem.HandSPX.veTail "ValueError.__new__" && isCB K c3) = true)
    (y4 : PySem.W.keepIn K (.ref c4) = true)
    (x4 : (PySem.W.excIn K c4 PySem.HandSPX.veTail "ValueError.__new__" && isCB K c4) = true)
    (y5 : PySem.W.keepIn K (.ref c5) = true)
    (x5 : (PySem.W.excIn K c5 PySem.HandSPX.veTail "ValueError.__new__" && isCB K c5) = true)
    (y6 : PySem.W.keepIn K (.ref c6) = true)
    (x6 : (PySem.W.excIn K c6 PySem.HandSPX.veTail "ValueError.__new__" && isCB K c6) = true)
    (y7 : PySem.W.keepIn K (.ref c7) = true)
    (x7 : (PySem.W.excIn K c7 PySem.HandSPX.veTail "ValueError.__new__" && isCB K c7) = true)
    (y8 : PySem.W.keepIn K (.ref c8) = true)
    (x8 : (PySem.W.excIn K c8 PySem.HandSPX.veTail "ValueError.__new__" && isCB K c8) = true)
    (y9 : PySem.W.keepIn K (.ref c9) = true)
    (x9 : (PySem.W.excIn K c9 PySem.HandSPX.veTail "ValueError.__new__" && isCB K c9) = true)
    (y10 : PySem.W.keepIn K (.ref c10) = true)
    (x10 : (PySem.W.excIn K c10 PySem.HandSPX.veTail "ValueError.__new__" && isCB K c10) = true)
    (x11 : e1B K c11 "car" = true)
    (x12 : e1B K c12 "index" = true)
    (x13 : e1B K c13 "index" = true)
    (x14 : e1B K c14 "error" = true)
    (x15 : e1B K c15 "error" = true)
    (x16 : e1B K c16 "index" = true)
    (x17 : e1B K c17 "index" = true)
    (x18 : e1B K c18 "error" = true)
    (x19 : e1B K c19 "value" = true)
    (x20 : e1B K c20 "value" = true)
    (x21 : e1B K c21 "index" = true)
    (x22 : e1B K c22 "value" = true)
    (x23 : e1B K c23 "value" = true)
    (x24 : e1B K c24 "version" = true)
    (x25 : e1B K c25 "count" = true)
    (x26 : e1B K c26 "lane" = true)
    (x27 : e1B K c27 "index" = true)
    (x28 : e1B K c28 "limit" = true)
    (xk : kitT K [c0, c1, c2, c3, c4, c5, c6, c7, c8, c9, c10, c11, c12, c13, c14, c15, c16, c17, c18, c19, c20, c21, c22, c23, c24, c25, c26, c27, c28, c29] = true) :
    ∃ fd : FuncData, (∀ (s : Shared) (v : Value), BindsTo s fd ⟨[v], []⟩ [("_law_script", v)]) ∧ ∀ base : Heap, K.In base → base.Ns mainGlobals mg → HasSys base → FnG l.prog w K mg base 5 fa fd ["_law_script"] (spLaw K) := by
  have e := hfa.symm.trans (PySem.W.mg_of X G a9)
  cases e
  have T : Blt mg := ⟨PySem.W.mg_none_of X G zlen, PySem.W.mg_none_of X G zrange, PySem.W.mg_none_of X G ztuple, PySem.W.mg_none_of X G zlist, PySem.W.mg_none_of X G zabs, PySem.W.mg_none_of X G zint, PySem.W.mg_none_of X G zstr, PySem.W.mg_none_of X G zbool, PySem.W.mg_none_of X G zrepr, PySem.W.mg_none_of X G zisinstance, PySem.W.mg_none_of X G zenumerate, PySem.W.mg_none_of X G zsorted, PySem.W.mg_none_of X G zset, PySem.W.mg_none_of X G zall, PySem.W.mg_none_of X G zmin, PySem.W.mg_none_of X G zmax, PySem.W.mg_none_of X G zany, PySem.W.mg_none_of X G zzip, PySem.W.mg_none_of X G zsum, PySem.W.mg_none_of X G zreversed⟩
  have F1 := fun_mk (st := sOpened) l1 d1 k1
  have b1 := F1.binds (ps := ["_law_script"]) fun _ _ _ _ _ _ us hl => match us, hl with | [_], _ => rfl
  have F2 := fun_mk (st := sRoll) l2 d2 k2
  have b2 := F2.binds (ps := ["_law_can", "_law_many"]) fun _ _ _ _ _ _ us hl => match us, hl with | [_, _], _ => rfl
  have F3 := fun_mk (st := sOne) l3 d3 k3
  have b3 := F3.binds (ps := ["_law_can", "_law_items"]) fun _ _ _ _ _ _ us hl => match us, hl with | [_, _], _ => rfl
  have F4 := fun_mk (st := sOdd) l4 d4 k4
  have b4 := F4.binds (ps := ["_law_can"]) fun _ _ _ _ _ _ us hl => match us, hl with | [_], _ => rfl
  have F5 := fun_mk (st := sPlain) l5 d5 k5
  have b5 := F5.binds (ps := ["_law_error"]) fun _ _ _ _ _ _ us hl => match us, hl with | [_], _ => rfl
  have F6 := fun_mk (st := sFilled) l6 d6 k6
  have b6 := F6.binds (ps := ["_law_error"]) fun _ _ _ _ _ _ us hl => match us, hl with | [_], _ => rfl
  have F7 := fun_mk (st := sAlone) l7 d7 k7
  have b7 := F7.binds (ps := ["_law_errors", "_law_others"]) fun _ _ _ _ _ _ us hl => match us, hl with | [_, _], _ => rfl
  have F8 := fun_mk (st := sMade) l8 d8 k8
  have b8 := F8.binds (ps := ["_law_values"]) fun _ _ _ _ _ _ us hl => match us, hl with | [_], _ => rfl
  have F9 := fun_mk (st := sLaw) l9 d9 k9
  have J11 := fun_mk (st := siAbsent) m11 w11 v11
  have B11 := J11.binds (ps := ["self", "car"]) fun _ _ _ _ _ _ us hl => match us, hl with | [_, _], _ => rfl
  have J12 := fun_mk (st := siBadCount) m12 w12 v12
  have B12 := J12.binds (ps := ["self", "index"]) fun _ _ _ _ _ _ us hl => match us, hl with | [_, _], _ => rfl
  have J13 := fun_mk (st := siBadDay) m13 w13 v13
  have B13 := J13.binds (ps := ["self", "index"]) fun _ _ _ _ _ _ us hl => match us, hl with | [_, _], _ => rfl
  have J14 := fun_mk (st := siBadRow) m14 w14 v14
  have B14 := J14.binds (ps := ["self", "error"]) fun _ _ _ _ _ _ us hl => match us, hl with | [_, _], _ => rfl
  have J15 := fun_mk (st := siBadRule) m15 w15 v15
  have B15 := J15.binds (ps := ["self", "error"]) fun _ _ _ _ _ _ us hl => match us, hl with | [_, _], _ => rfl
  have J16 := fun_mk (st := siBadText) m16 w16 v16
  have B16 := J16.binds (ps := ["self", "index"]) fun _ _ _ _ _ _ us hl => match us, hl with | [_, _], _ => rfl
  have J17 := fun_mk (st := siBadWish) m17 w17 v17
  have B17 := J17.binds (ps := ["self", "index"]) fun _ _ _ _ _ _ us hl => match us, hl with | [_, _], _ => rfl
  have J18 := fun_mk (st := siBadWord) m18 w18 v18
  have B18 := J18.binds (ps := ["self", "error"]) fun _ _ _ _ _ _ us hl => match us, hl with | [_, _], _ => rfl
  have J19 := fun_mk (st := siNoCar) m19 w19 v19
  have B19 := J19.binds (ps := ["self", "value"]) fun _ _ _ _ _ _ us hl => match us, hl with | [_, _], _ => rfl
  have J20 := fun_mk (st := siNoCount) m20 w20 v20
  have B20 := J20.binds (ps := ["self", "value"]) fun _ _ _ _ _ _ us hl => match us, hl with | [_, _], _ => rfl
  have J21 := fun_mk (st := siNoIndex) m21 w21 v21
  have B21 := J21.binds (ps := ["self", "index"]) fun _ _ _ _ _ _ us hl => match us, hl with | [_, _], _ => rfl
  have J22 := fun_mk (st := siNoLane) m22 w22 v22
  have B22 := J22.binds (ps := ["self", "value"]) fun _ _ _ _ _ _ us hl => match us, hl with | [_, _], _ => rfl
  have J23 := fun_mk (st := siNoPair) m23 w23 v23
  have B23 := J23.binds (ps := ["self", "value"]) fun _ _ _ _ _ _ us hl => match us, hl with | [_, _], _ => rfl
  have J24 := fun_mk (st := siNoVersion) m24 w24 v24
  have B24 := J24.binds (ps := ["self", "version"]) fun _ _ _ _ _ _ us hl => match us, hl with | [_, _], _ => rfl
  have J25 := fun_mk (st := siOtherLanes) m25 w25 v25
  have B25 := J25.binds (ps := ["self", "count"]) fun _ _ _ _ _ _ us hl => match us, hl with | [_, _], _ => rfl
  have J26 := fun_mk (st := siPassedOver) m26 w26 v26
  have B26 := J26.binds (ps := ["self", "lane"]) fun _ _ _ _ _ _ us hl => match us, hl with | [_, _], _ => rfl
  have J27 := fun_mk (st := siRejected) m27 w27 v27
  have B27 := J27.binds (ps := ["self", "index"]) fun _ _ _ _ _ _ us hl => match us, hl with | [_, _], _ => rfl
  have J28 := fun_mk (st := siTooLarge) m28 w28 v28
  have B28 := J28.binds (ps := ["self", "limit"]) fun _ _ _ _ _ _ us hl => match us, hl with | [_, _], _ => rfl
  refine ⟨PySem.W.fnOf "law" "law" (defArgs sLaw) (defBody sLaw) (defScope sLaw) .none kV9 dc9 pm9 an9 cd9 ct9, fun s v => .of_eq rfl, fun base _ _ hs => ?_⟩
  have S : Errs l.prog w K mg base (fun n => [c0, c1, c2, c3, c4, c5, c6, c7, c8, c9, c10, c11, c12, c13, c14, c15, c16, c17, c18, c19, c20, c21, c22, c23, c24, c25, c26, c27, c28, c29].getD n 0) := {
    pe := PySem.W.mg_of X G n29
    ve := PySem.W.mg_none_of X G zValueError
    e0 := ⟨PySem.W.mg_of X G n0, y0, (Bool.and_eq_true_iff.mp x0).1, isCB_ok (Bool.and_eq_true_iff.mp x0).2⟩
    e1 := ⟨PySem.W.mg_of X G n1, y1, (Bool.and_eq_true_iff.mp x1).1, isCB_ok (Bool.and_eq_true_iff.mp x1).2⟩
    e2 := ⟨PySem.W.mg_of X G n2, y2, (Bool.and_eq_true_iff.mp x2).1, isCB_ok (Bool.and_eq_true_iff.mp x2).2⟩
    e3 := ⟨PySem.W.mg_of X G n3, y3, (Bool.and_eq_true_iff.mp x3).1, isCB_ok (Bool.and_eq_true_iff.mp x3).2⟩
    e4 := ⟨PySem.W.mg_of X G n4, y4, (Bool.and_eq_true_iff.mp x4).1, isCB_ok (Bool.and_eq_true_iff.mp x4).2⟩
    e5 := ⟨PySem.W.mg_of X G n5, y5, (Bool.and_eq_true_iff.mp x5).1, isCB_ok (Bool.and_eq_true_iff.mp x5).2⟩
    e6 := ⟨PySem.W.mg_of X G n6, y6, (Bool.and_eq_true_iff.mp x6).1, isCB_ok (Bool.and_eq_true_iff.mp x6).2⟩
    e7 := ⟨PySem.W.mg_of X G n7, y7, (Bool.and_eq_true_iff.mp x7).1, isCB_ok (Bool.and_eq_true_iff.mp x7).2⟩
    e8 := ⟨PySem.W.mg_of X G n8, y8, (Bool.and_eq_true_iff.mp x8).1, isCB_ok (Bool.and_eq_true_iff.mp x8).2⟩
    e9 := ⟨PySem.W.mg_of X G n9, y9, (Bool.and_eq_true_iff.mp x9).1, isCB_ok (Bool.and_eq_true_iff.mp x9).2⟩
    e10 := ⟨PySem.W.mg_of X G n10, y10, (Bool.and_eq_true_iff.mp x10).1, isCB_ok (Bool.and_eq_true_iff.mp x10).2⟩
    e11 := er1_of (PySem.W.mg_of X G n11) x11 i11 t11 (ok_iAbsent J11) B11
    e12 := er1_of (PySem.W.mg_of X G n12) x12 i12 t12 (ok_iBadCount J12) B12
    e13 := er1_of (PySem.W.mg_of X G n13) x13 i13 t13 (ok_iBadDay J13) B13
    e14 := er1_of (PySem.W.mg_of X G n14) x14 i14 t14 (ok_iBadRow J14) B14
    e15 := er1_of (PySem.W.mg_of X G n15) x15 i15 t15 (ok_iBadRule J15) B15
    e16 := er1_of (PySem.W.mg_of X G n16) x16 i16 t16 (ok_iBadText J16) B16
    e17 := er1_of (PySem.W.mg_of X G n17) x17 i17 t17 (ok_iBadWish J17) B17
    e18 := er1_of (PySem.W.mg_of X G n18) x18 i18 t18 (ok_iBadWord J18) B18
    e19 := er1_of (PySem.W.mg_of X G n19) x19 i19 t19 (ok_iNoCar J19) B19
    e20 := er1_of (PySem.W.mg_of X G n20) x20 i20 t20 (ok_iNoCount J20) B20
    e21 := er1_of (PySem.W.mg_of X G n21) x21 i21 t21 (ok_iNoIndex J21) B21
    e22 := er1_of (PySem.W.mg_of X G n22) x22 i22 t22 (ok_iNoLane J22) B22
    e23 := er1_of (PySem.W.mg_of X G n23) x23 i23 t23 (ok_iNoPair J23) B23
    e24 := er1_of (PySem.W.mg_of X G n24) x24 i24 t24 (ok_iNoVersion J24) B24
    e25 := er1_of (PySem.W.mg_of X G n25) x25 i25 t25 (ok_iOtherLanes J25) B25
    e26 := er1_of (PySem.W.mg_of X G n26) x26 i26 t26 (ok_iPassedOver J26) B26
    e27 := er1_of (PySem.W.mg_of X G n27) x27 i27 t27 (ok_iRejected J27) B27
    e28 := er1_of (PySem.W.mg_of X G n28) x28 i28 t28 (ok_iTooLarge J28) B28
    kit := fun n hn => (kitT_ok xk n hn).1
    kp := fun n hn => (kitT_ok xk n hn).2.1
    kv := fun n hn => (kitT_ok xk n hn).2.2
    is := fun n hn => match n, hn with
      | 0, _ => isCB_ok (Bool.and_eq_true_iff.mp x0).2
      | 1, _ => isCB_ok (Bool.and_eq_true_iff.mp x1).2
      | 2, _ => isCB_ok (Bool.and_eq_true_iff.mp x2).2
      | 3, _ => isCB_ok (Bool.and_eq_true_iff.mp x3).2
      | 4, _ => isCB_ok (Bool.and_eq_true_iff.mp x4).2
      | 5, _ => isCB_ok (Bool.and_eq_true_iff.mp x5).2
      | 6, _ => isCB_ok (Bool.and_eq_true_iff.mp x6).2
      | 7, _ => isCB_ok (Bool.and_eq_true_iff.mp x7).2
      | 8, _ => isCB_ok (Bool.and_eq_true_iff.mp x8).2
      | 9, _ => isCB_ok (Bool.and_eq_true_iff.mp x9).2
      | 10, _ => isCB_ok (Bool.and_eq_true_iff.mp x10).2
      | 11, _ => e1B_is x11
      | 12, _ => e1B_is x12
      | 13, _ => e1B_is x13
      | 14, _ => e1B_is x14
      | 15, _ => e1B_is x15
      | 16, _ => e1B_is x16
      | 17, _ => e1B_is x17
      | 18, _ => e1B_is x18
      | 19, _ => e1B_is x19
      | 20, _ => e1B_is x20
      | 21, _ => e1B_is x21
      | 22, _ => e1B_is x22
      | 23, _ => e1B_is x23
      | 24, _ => e1B_is x24
      | 25, _ => e1B_is x25
      | 26, _ => e1B_is x26
      | 27, _ => e1B_is x27
      | 28, _ => e1B_is x28
      | n + 29, h => absurd h (by omega) }
  have h__law_roll : Cal l.prog w K mg base 1 "_law_roll" ["_law_can", "_law_many"] (spRoll l.prog w) := ⟨f2, _, ok_roll F2 T.len, PySem.W.mg_of X G a2, k2, b2⟩
  have h__law_one : Cal l.prog w K mg base 2 "_law_one" ["_law_can", "_law_items"] (spOne l.prog w) := ⟨f3, _, ok_one F3 T h__law_roll, PySem.W.mg_of X G a3, k3, b3⟩
  have h__law_opened : Cal l.prog w K mg base 1 "_law_opened" ["_law_script"] (spOpened l.prog w K) := ⟨f1, _, ok_opened F1 T, PySem.W.mg_of X G a1, k1, b1⟩
  have h__law_odd : Cal l.prog w K mg base 3 "_law_odd" ["_law_can"] (spOdd l.prog w) := ⟨f4, _, ok_odd F4 T h__law_one, PySem.W.mg_of X G a4, k4, b4⟩
  have h__law_plain : Cal l.prog w K mg base 1 "_law_plain" ["_law_error"] (spPlain _) := ⟨f5, _, ok_plain F5 T S, PySem.W.mg_of X G a5, k5, b5⟩
  have h__law_filled : Cal l.prog w K mg base 1 "_law_filled" ["_law_error"] (spFilled _) := ⟨f6, _, ok_filled F6 T S, PySem.W.mg_of X G a6, k6, b6⟩
  have h__law_alone : Cal l.prog w K mg base 2 "_law_alone" ["_law_errors", "_law_others"] (spAlone _) := ⟨f7, _, ok_alone F7 T S h__law_plain h__law_filled, PySem.W.mg_of X G a7, k7, b7⟩
  have h__law_made : Cal l.prog w K mg base 3 "_law_made" ["_law_values"] (spMade _) := ⟨f8, _, ok_made F8 T S, PySem.W.mg_of X G a8, k8, b8⟩
  exact ok_law hs F9 T S (PySem.W.mg_of X G qBATCH) (PySem.W.mg_of X G qHISTORY) (PySem.W.mg_of X G qMAX_CARS) (PySem.W.mg_of X G qMAX_LANES) (PySem.W.mg_of X G qSMALL) h__law_opened h__law_odd h__law_made h__law_alone
end Lr
open PySem PySem.W PyProof.Rows
set_option maxRecDepth 100000 in
set_option maxHeartbeats 0 in
theorem PySem.Challenge.cw_lanerules_k01_limits_and_errors_holds : PySem.Challenge.rw_lanerules_k01_limits_and_errors.Holds := by
  w_on; o_law; k_head; (case hw => w_witness2)
  k_fill
  refine Lr.walkS (l := PySem.Challenge.rw_lanerules_k01_limits_and_errors) (n := 63) (k := 5) (x := "_law_script") (sp := fun w => Lr.spLaw _) rfl (by decide) rfl ⟨rfl, by decide, by decide⟩ (by decide +kernel) (fun w h Y => PySem.W.kIn_of Y) ?F (fun w H a ns hl hS => ⟨a, ns, rfl, hS, hl, fun _ => rfl⟩)
  case F =>
    intro w mg fa h KX G hmg
    refine' Lr.all_mk KX G hmg ?a1 ?l1 ?d1 ?k1 ?a2 ?l2 ?d2 ?k2 ?a3 ?l3 ?d3 ?k3 ?a4 ?l4 ?d4 ?k4 ?a5 ?l5 ?d5 ?k5 ?a6 ?l6 ?d6 ?k6 ?a7 ?l7 ?d7 ?k7 ?a8 ?l8 ?d8 ?k8 ?a9 ?l9 ?d9 ?k9 ?zlen ?zrange ?ztuple ?zlist ?zabs ?zint ?zstr ?zbool ?zrepr ?zisinstance ?zenumerate ?zsorted ?zset ?zall ?zmin ?zmax ?zany ?zzip ?zsum ?zreversed ?zValueError ?qBATCH ?qHISTORY ?qMAX_CARS ?qMAX_LANES ?qSMALL ?n0 ?n1 ?n2 ?n3 ?n4 ?n5 ?n6 ?n7 ?n8 ?n9 ?n10 ?n11 ?i11 ?t11 ?m11 ?w11 ?v11 ?n12 ?i12 ?t12 ?m12 ?w12 ?v12 ?n13 ?i13 ?t13 ?m13 ?w13 ?v13 ?n14 ?i14 ?t14 ?m14 ?w14 ?v14 ?n15 ?i15 ?t15 ?m15 ?w15 ?v15 ?n16 ?i16 ?t16 ?m16 ?w16 ?v16 ?n17 ?i17 ?t17 ?m17 ?w17 ?v17 ?n18 ?i18 ?t18 ?m18 ?w18 ?v18 ?n19 ?i19 ?t19 ?m19 ?w19 ?v19 ?n20 ?i20 ?t20 ?m20 ?w20 ?v20 ?n21 ?i21 ?t21 ?m21 ?w21 ?v21 ?n22 ?i22 ?t22 ?m22 ?w22 ?v22 ?n23 ?i23 ?t23 ?m23 ?w23 ?v23 ?n24 ?i24 ?t24 ?m24 ?w24 ?v24 ?n25 ?i25 ?t25 ?m25 ?w25 ?v25 ?n26 ?i26 ?t26 ?m26 ?w26 ?v26 ?n27 ?i27 ?t27 ?m27 ?w27 ?v27 ?n28 ?i28 ?t28 ?m28 ?w28 ?v28 ?n29 ?y0 ?x0 ?y1 ?x1 ?y2 ?x2 ?y3 ?x3 ?y4 ?x4 ?y5 ?x5 ?y6 ?x6 ?y7 ?x7 ?y8 ?x8 ?y9 ?x9 ?y10 ?x10 ?x11 ?x12 ?x13 ?x14 ?x15 ?x16 ?x17 ?x18 ?x19 ?x20 ?x21 ?x22 ?x23 ?x24 ?x25 ?x26 ?x27 ?x28 ?xk
    (case a1 => k_is)
    (case l1 => k_is)
    (case d1 => k_is)
    (case k1 => k_is)
    (case a2 => k_is)
    (case l2 => k_is)
    (case d2 => k_is)
    (case k2 => k_is)
    (case a3 => k_is)
    (case l3 => k_is)
    (case d3 => k_is)
    (case k3 => k_is)
    (case a4 => k_is)
    (case l4 => k_is)
    (case d4 => k_is)
    (case k4 => k_is)
    (case a5 => k_is)
    (case l5 => k_is)
    (case d5 => k_is)
    (case k5 => k_is)
    (case a6 => k_is)
    (case l6 => k_is)
    (case d6 => k_is)
    (case k6 => k_is)
    (case a7 => k_is)
    (case l7 => k_is)
    (case d7 => k_is)
    (case k7 => k_is)
    (case a8 => k_is)
    (case l8 => k_is)
    (case d8 => k_is)
    (case k8 => k_is)
    (case a9 => k_is)
    (case l9 => k_is)
    (case d9 => k_is)
    (case k9 => k_is)
    (case zlen => k_is)
    (case zrange => k_is)
    (case ztuple => k_is)
    (case zlist => k_is)
    (case zabs => k_is)
    (case zint => k_is)
    (case zstr => k_is)
    (case zbool => k_is)
    (case zrepr => k_is)
    (case zisinstance => k_is)
    (case zenumerate => k_is)
    (case zsorted => k_is)
    (case zset => k_is)
    (case zall => k_is)
    (case zmin => k_is)
    (case zmax => k_is)
    (case zany => k_is)
    (case zzip => k_is)
    (case zsum => k_is)
    (case zreversed => k_is)
    (case zValueError => k_is)
    (case qBATCH => k_is)
    (case qHISTORY => k_is)
    (case qMAX_CARS => k_is)
    (case qMAX_LANES => k_is)
    (case qSMALL => k_is)
    (case n0 => k_is)
    (case n1 => k_is)
    (case n2 => k_is)
    (case n3 => k_is)
    (case n4 => k_is)
    (case n5 => k_is)
    (case n6 => k_is)
    (case n7 => k_is)
    (case n8 => k_is)
    (case n9 => k_is)
    (case n10 => k_is)
    (case n11 => k_is)
    (case i11 => k_is)
    (case t11 => k_is)
    (case m11 => k_is)
    (case w11 => k_is)
    (case v11 => k_is)
    (case n12 => k_is)
    (case i12 => k_is)
    (case t12 => k_is)
    (case m12 => k_is)
    (case w12 => k_is)
    (case v12 => k_is)
    (case n13 => k_is)
    (case i13 => k_is)
    (case t13 => k_is)
    (case m13 => k_is)
    (case w13 => k_is)
    (case v13 => k_is)
    (case n14 => k_is)
    (case i14 => k_is)
    (case t14 => k_is)
    (case m14 => k_is)
    (case w14 => k_is)
    (case v14 => k_is)
    (case n15 => k_is)
    (case i15 => k_is)
    (case t15 => k_is)
    (case m15 => k_is)
    (case w15 => k_is)
    (case v15 => k_is)
    (case n16 => k_is)
    (case i16 => k_is)
    (case t16 => k_is)
    (case m16 => k_is)
    (case w16 => k_is)
    (case v16 => k_is)
    (case n17 => k_is)
    (case i17 => k_is)
    (case t17 => k_is)
    (case m17 => k_is)
    (case w17 => k_is)
    (case v17 => k_is)
    (case n18 => k_is)
    (case i18 => k_is)
    (case t18 => k_is)
    (case m18 => k_is)
    (case w18 => k_is)
    (case v18 => k_is)
    (case n19 => k_is)
    (case i19 => k_is)
    (case t19 => k_is)
    (case m19 => k_is)
    (case w19 => k_is)
    (case v19 => k_is)
    (case n20 => k_is)
    (case i20 => k_is)
    (case t20 => k_is)
    (case m20 => k_is)
    (case w20 => k_is)
    (case v20 => k_is)
    (case n21 => k_is)
    (case i21 => k_is)
    (case t21 => k_is)
    (case m21 => k_is)
    (case w21 => k_is)
    (case v21 => k_is)
    (case n22 => k_is)
    (case i22 => k_is)
    (case t22 => k_is)
    (case m22 => k_is)
    (case w22 => k_is)
    (case v22 => k_is)
    (case n23 => k_is)
    (case i23 => k_is)
    (case t23 => k_is)
    (case m23 => k_is)
    (case w23 => k_is)
    (case v23 => k_is)
    (case n24 => k_is)
    (case i24 => k_is)
    (case t24 => k_is)
    (case m24 => k_is)
    (case w24 => k_is)
    (case v24 => k_is)
    (case n25 => k_is)
    (case i25 => k_is)
    (case t25 => k_is)
    (case m25 => k_is)
    (case w25 => k_is)
    (case v25 => k_is)
    (case n26 => k_is)
    (case i26 => k_is)
    (case t26 => k_is)
    (case m26 => k_is)
    (case w26 => k_is)
    (case v26 => k_is)
    (case n27 => k_is)
    (case i27 => k_is)
    (case t27 => k_is)
    (case m27 => k_is)
    (case w27 => k_is)
    (case v27 => k_is)
    (case n28 => k_is)
    (case i28 => k_is)
    (case t28 => k_is)
    (case m28 => k_is)
    (case w28 => k_is)
    (case v28 => k_is)
    (case n29 => k_is)
    (case y0 => k_is)
    (case x0 => kernel_rfl)
    (case y1 => k_is)
    (case x1 => kernel_rfl)
    (case y2 => k_is)
    (case x2 => kernel_rfl)
    (case y3 => k_is)
    (case x3 => kernel_rfl)
    (case y4 => k_is)
    (case x4 => kernel_rfl)
    (case y5 => k_is)
    (case x5 => kernel_rfl)
    (case y6 => k_is)
    (case x6 => kernel_rfl)
    (case y7 => k_is)
    (case x7 => kernel_rfl)
    (case y8 => k_is)
    (case x8 => kernel_rfl)
    (case y9 => k_is)
    (case x9 => kernel_rfl)
    (case y10 => k_is)
    (case x10 => kernel_rfl)
    (case x11 => kernel_rfl)
    (case x12 => kernel_rfl)
    (case x13 => kernel_rfl)
    (case x14 => kernel_rfl)
    (case x15 => kernel_rfl)
    (case x16 => kernel_rfl)
    (case x17 => kernel_rfl)
    (case x18 => kernel_rfl)
    (case x19 => kernel_rfl)
    (case x20 => kernel_rfl)
    (case x21 => kernel_rfl)
    (case x22 => kernel_rfl)
    (case x23 => kernel_rfl)
    (case x24 => kernel_rfl)
    (case x25 => kernel_rfl)
    (case x26 => kernel_rfl)
    (case x27 => kernel_rfl)
    (case x28 => kernel_rfl)
    (case xk => kernel_rfl)
