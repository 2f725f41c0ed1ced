import PyProof.Rows.All
import Wide.All
import OpenK.AllK
import Wide.FinOn
import PySem.Challenge.RW_lanerules_k11_orders_judged
import HandS.ForMost
import HandS.Wide
import HandS.Conv
import HandS.More
import HandS.Style
import HandS.TupMul
import HandS.TupAny
import HandS.IsInst
import HandS.EndBits
import HandS.Evl
import KE.GoesMore
import KE.GoesEnum
import HandS.SetFor
import HandS.Strs
set_option Elab.async false
set_option linter.all false
set_option maxRecDepth 100000
set_option maxHeartbeats 4000000
namespace Lr
open PySem L2
abbrev Ex := Evl.Ex
/-! ### the drawer of numbers: its dict and its list of great numbers are known only by what always holds of them -/
def canKvs (d a : Addr) (t : Int) : List (Key × V) := [(Sum.inr "deep", .ref d), (Sum.inr "all", .ref a), (Sum.inr "times", .int t)]
def DeepOk (ds : List Int) : Prop := (∀ x ∈ ds, 0 ≤ x) ∧ ds.length ≤ 63
section
variable (P : Program) (w : World)
abbrev H0 : Hp := fun _ => none
def phiC (c d a : Addr) : Heap → Prop := fun h => ∃ t : Int, ObjOk P w H0 h c (.dK (canKvs d a t))
def phiD (d : Addr) : Heap → Prop := fun h => ∃ ds : List Int, DeepOk ds ∧ ObjOk P w H0 h d (.lst (ds.map V.int))
/-- the drawer stands at c -/
def Can (H : Hp) (c : Addr) : Prop := ∃ d a cs, H c = some (.ext (phiC P w c d a)) ∧ H d = some (.ext (phiD P w d)) ∧ H a = some (.lst (cs.map V.int)) ∧ cs ≠ [] ∧ cs.length ≤ 64 ∧ d ≠ c
end
section
variable {P : Program} {w : World} {H H' : Hp} {c d a : Addr}
theorem Can.mono (h : Can P w H c) (e : Ex H H') : Can P w H' c := by
  obtain ⟨d, a, cs, h1, h2, h3, h4⟩ := h
  exact ⟨d, a, cs, e _ _ h1, e _ _ h2, e _ _ h3, h4⟩
theorem stayC {h1 h2 : Heap} (x : phiC P w c d a h1) (k : ∀ o, h1.get? c = some o → h2.get? c = some o) : phiC P w c d a h2 := by
  obtain ⟨t, x⟩ := x
  refine ⟨t, ObjOk.stay x (fun b u hb e => ?_) (fun _ q => nomatch q) fun _ _ q => nomatch q⟩
  rcases hb with rfl | q
  · exact k u e
  · cases q
theorem stayD {h1 h2 : Heap} (x : phiD P w d h1) (k : ∀ o, h1.get? d = some o → h2.get? d = some o) : phiD P w d h2 := by
  obtain ⟨t, g, x⟩ := x
  refine ⟨t, g, ObjOk.stay x (fun b u hb e => ?_) (fun _ q => nomatch q) fun _ _ q => nomatch q⟩
  rcases hb with rfl | q
  · exact k u e
  · cases q
theorem there_dK {h : Heap} {kvs : List (Key × V)} (x : ObjOk P w H h c (.dK kvs)) : ∃ o, h.get? c = some o := by
  obtain ⟨_, _, _, _, o, _, _, e, _⟩ := x
  exact ⟨o, e⟩
theorem there_lst {h : Heap} {xs : List V} (x : ObjOk P w H h c (.lst xs)) : ∃ o, h.get? c = some o := by
  obtain ⟨_, _, _, _, e⟩ := x
  exact ⟨_, e⟩
end
section
variable {X : Cx} {pins : List (Addr × Obj)} {σ : St} {H : Hp} {s : Shared} {c d a : Addr}
/-- another description of the same object -/
theorem reword {o o' : HO} (I : Inv X pins σ H s) (h : H c = some o) (mu : Mut (some o)) (new : ObjOk X.prog X.w (upd H c o') s.heap c o') (there : ∃ u, s.heap.get? c = some u) : Inv X pins σ (upd H c o') s :=
  I.write (x := c) (e := c) (t' := s.toks) (h' := s.heap) (by rw [h]; exact mu) (.inl rfl) (fun _ _ _ q => q) there new
theorem opened (I : Inv X pins σ H s) (h1 : H c = some (.ext (phiC X.prog X.w c d a))) (h2 : H d = some (.ext (phiD X.prog X.w d))) (hcd : d ≠ c) :
    ∃ t ds, DeepOk ds ∧ Inv X pins σ (upd (upd H c (.dK (canKvs d a t))) d (.lst (ds.map V.int))) s := by
  obtain ⟨⟨t, x1⟩, th1, _⟩ := I.hok c _ h1
  obtain ⟨⟨ds, g, x2⟩, th2, _⟩ := I.hok d _ h2
  have I1 := reword (o' := .dK (canKvs d a t)) I h1 trivial x1 th1
  have h3 : upd H c (.dK (canKvs d a t)) d = some (.ext (phiD X.prog X.w d)) := by rw [upd_ne hcd]; exact h2
  exact ⟨t, ds, g, reword (o' := .lst (ds.map V.int)) I1 h3 trivial x2 th2⟩
theorem closed {t : Int} {ds : List Int} (I : Inv X pins σ H s) (h1 : H c = some (.dK (canKvs d a t))) (h2 : H d = some (.lst (ds.map V.int))) (g : DeepOk ds) (hcd : d ≠ c) :
    Inv X pins σ (upd (upd H c (.ext (phiC X.prog X.w c d a))) d (.ext (phiD X.prog X.w d))) s := by
  have x1 : ObjOk X.prog X.w H0 s.heap c (.dK (canKvs d a t)) := I.hok c _ h1
  have x2 : ObjOk X.prog X.w H0 s.heap d (.lst (ds.map V.int)) := I.hok d _ h2
  have I1 := reword (o' := .ext (phiC X.prog X.w c d a)) I h1 trivial ⟨⟨t, x1⟩, there_dK x1, fun _ _ p k => stayC p k⟩ (there_dK x1)
  have h3 : upd H c (.ext (phiC X.prog X.w c d a)) d = some (.lst (ds.map V.int)) := by rw [upd_ne hcd]; exact h2
  exact reword (o' := .ext (phiD X.prog X.w d)) I1 h3 trivial ⟨⟨ds, g, x2⟩, there_lst x2, fun _ _ p k => stayD p k⟩ (there_lst x2)
end
/-- a body that opens the drawer, and closes it ahead of each return -/
def tDrawer (P : Program) (w : World) (t : TS) : TS := fun D σ H => ∃ c d a, H c = some (.ext (phiC P w c d a)) ∧ H d = some (.ext (phiD P w d)) ∧ d ≠ c ∧
  ∀ tm ds, DeepOk ds → t ⟨fun _ _ => False, fun v H' => (∃ tm' ds', H' c = some (.dK (canKvs d a tm')) ∧ H' d = some (.lst (ds'.map V.int)) ∧ DeepOk ds' ∧
    D.rt v (upd (upd H' c (.ext (phiC P w c d a))) d (.ext (phiD P w d)))), fun _ _ => False, fun _ _ => False⟩ σ (upd (upd H c (.dK (canKvs d a tm))) d (.lst (ds.map V.int)))
theorem pss_drawer {X : Cx} {st : List Stmt} {t : TS} (h : PSs X st t) : PSs X st (tDrawer X.prog X.w t) := by
  refine ⟨fun pins s σ H D I hw => ?_⟩
  obtain ⟨c, d, a, h1, h2, hcd, hw⟩ := hw
  obtain ⟨tm, ds, g, I1⟩ := opened I h1 h2 hcd
  refine thn (h.run pins s σ _ _ I1 (hw tm ds g)) fun f s1 q => ?_
  cases f with
  | next => obtain ⟨_, _, _, z⟩ := q; exact z.elim
  | brk => obtain ⟨_, _, _, z⟩ := q; exact z.elim
  | cont => obtain ⟨_, _, _, z⟩ := q; exact z.elim
  | ret v =>
    obtain ⟨x, σ', H', I2, r, tm', ds', e1, e2, g', z⟩ := q
    exact ⟨x, σ', _, closed I2 e1 e2 g' hcd, r, z⟩
end Lr

namespace Lr
open PySem L2 PySem.Spec PyProof.Rows
/-! ### a promise that is asked for only where no repr is under way -/
structure FnG (P : Program) (w : World) (K : PySem.W.Frag) (mg : Str → Option Value) (base : Heap)
    (k : Nat) (f : Addr) (fd : FuncData) (ps : List Str) (sp : Sp) : Prop where
  len : ∀ vs H Q E, sp vs H Q E → vs.length = ps.length
  go : ∀ (A : Around) (outer : List Env) (s : Shared) (H : Hp) (args : Args) (us : List Value)
      (vs : List V) (Q : VK) (E : XK), Room k A → A.guards = some [] →
      Env0 P w K mg base A outer s H → BindsTo s fd args (ps.zip us) → Vals vs us → sp vs H Q E →
      codeAny (model P w) A (.call (.ref f) args) (CR CX0 outer P w H s Q E) s
section
variable {P : Program} {w : World} {K : PySem.W.Frag} {mg : Str → Option Value} {base : Heap}
/-- by its body -/
theorem fnG {x qual : Str} {st : Stmt} {f : Addr} {fd : FuncData} {N ps : List Str} {k : Nat} {sp : Sp}
    (F : Fun K x qual st f fd) (S : FnScope N ps (defScope st))
    (len : ∀ vs H Q E, sp vs H Q E → vs.length = ps.length)
    (hbody : ∀ (cdv : Value) (A : Around) (outer : List Env) (s : Shared) (H : Hp) (vs : List V) (Q : VK) (E : XK),
      Room k (A.deeper (envOfC qual (defScope st) s.heap.objs.size f cdv)) →
      (A.deeper (envOfC qual (defScope st) s.heap.objs.size f cdv)).guards = some [] → sp vs H Q E →
      ∃ t, PSs (cxOf CX0 P w K mg base N qual (defScope st) f cdv A outer s H E).nox (defBody st) t ∧
        t { nx := fun _ G => Q .non G, rt := Q } (start N vs) H) :
    FnG P w K mg base (k + 1) f fd ps sp := by
  obtain ⟨oc, od, kV, doc, pm, an, cdv, ct, osl, rfl, lk, hcd⟩ := F.ex
  refine ⟨len, ?_⟩
  intro A outer s H args us vs Q E room hg env hb rel want
  have many := len _ _ _ _ want
  have inK : K.In s.heap := env.mod.kin.keeps fun b o e => (env.bs b o e).1
  have lim := env.mod.nolimit.keeps (h' := s.heap) fun b o e => (env.bs b o e).1
  refine codeAny_call_function room.depth (inK _ _ lk) rfl S.co S.gen rfl (PySem.W.codeRec_of inK hcd)
    (hb _ _ _ _ (wpAny_newFunctionEnv_cells S.kind (fun y hy => ?_) fun env' he s1 x1 => ?_))
  · obtain ⟨nm, val⟩ := y
    rcases S.par nm (List.of_mem_zip hy).1 with q | q
    · exact Or.inl q
    · exact Or.inr ⟨q, PySem.W.cellsFrom_some _ _ _ (Or.inl q)⟩
  · subst he
    refine ⟨lim.keeps x1.toInCall.keep, codeAny_func ?_⟩
    obtain ⟨t, ht, hq⟩ := hbody cdv A outer s H vs Q E (room.deeper _) hg want
    have J := inv_start (CX := CX0) (E := E) S room.hd env many rel x1
    refine wpAny_mono (ht.nox.run [] s1 (start N vs) H _ J hq) ?_ fun _ _ z => z
    intro fl s2 out
    cases fl with
    | ret u =>
      obtain ⟨v, σ2, H2, J2, rv, q⟩ := out
      exact ⟨v, H2, J2.os, J2.bare, J2.base, J2.hok, rv, q⟩
    | next =>
      obtain ⟨σ2, H2, J2, q⟩ := out
      exact ⟨.non, H2, J2.os, J2.bare, J2.base, J2.hok, rfl, q⟩
    | brk => obtain ⟨_, _, _, z⟩ := out; exact z.elim
    | cont => obtain ⟨_, _, _, z⟩ := out; exact z.elim
end
section
variable {X : Cx} {k : Nat} {f : Addr} {fd : FuncData} {ps : List Str} {sp : Sp} {x : Str} {p pos : Pos} {e : Expr} {es : List Expr} {t : TA}
/-- a call of such a def, where no repr is under way -/
theorem pe_callG (F : FnG X.prog X.w X.K X.mg X.base k f fd ps sp) (hr : Room k X.A) (hgd : X.A.guards = some []) (hg : Gl X x)
    (hm : X.mg x = some (.ref f)) (hk : PySem.W.keepIn X.K (.ref f) = true) (hb : Binds X.K fd ps [])
    (ha : PA X (e :: es) t) (hdb : (x == ("__debug__" : Str)) = false := by decide)
    (he : starEach (e :: es) X.env = (false, eval e X.env) :: starEach es X.env := by rfl)
    (hpl : (backTo pos (starEach es X.env)).any (·.1) = false := by rfl) :
    PE X (.Call (.Name x p) (e :: es) [] pos) (tCall sp [] E0 t) := by
  refine ⟨fun pins s σ H Q I h => wpAny_Call_Name_kw (ld_glob I hg hm ?_ hdb)⟩
  refine PySem.W.callWith_K (h₀ := X.base) I.ok.mod.kin hk ?_ he hpl
  refine thn (ha.run pos pins s σ H _ I h) ?_
  rintro us s1 ⟨vs, H1, I1, r, q⟩
  refine ⟨I1.kIn, ?_⟩
  rw [List.append_nil] at q
  have len := F.len _ _ _ _ q
  have bind := hb s1 us I1.kIn (by rw [List.append_nil, ← r.length]; exact len)
  rw [List.append_nil] at bind
  refine wpAny_call (codeAny_mono (F.go X.A X.stack s1 H1 ⟨us, []⟩ us vs Q E0 hr hgd I1.env0 bind r q) ?_)
  intro res s2 out
  cases res with
  | error u => exact False.elim out
  | ok fl =>
    cases fl with
    | ret u => exact I1.after out
    | next => exact False.elim out
    | brk => exact False.elim out
    | cont => exact False.elim out
end
/-! ### the law's end -/
theorem lawG {P : Program} {w : World} {K : PySem.W.Frag} {mg mb : Str → Option Value} {k : Nat} {fa a : Addr} {fd : FuncData} {x : Str} {sp : Sp}
    {t0 : Shared} {us : List Value} {ns : List Int} (inK : K.In t0.heap) (gl : t0.heap.Ns mainGlobals mg) (bl : t0.heap.Ns builtinsNs mb)
    (blt : ∀ y : Str, y ≠ "__name__" → mb y = bootBuiltins y) (lim : t0.heap.NoLimit) (nog : t0.gens = #[])
    (at' : t0.heap.get? a = some { cls := .type "list", data := .seq us.toArray }) (hints : IntsAre us ns) (short : ns.length ≤ sizeLine)
    (room : Room k callerA) (F : ∀ base : Heap, K.In base → base.Ns mainGlobals mg → FnG P w K mg base k fa fd [x] sp)
    (bind : ∀ (s : Shared) (u : Value), BindsTo s fd ⟨[u], []⟩ [(x, u)])
    (want : ∀ H : Hp, SqL K H a (ns.map V.int) → sp [.ref a] H (fun v _ => v = .bl true) fun _ _ _ => False) :
    codeAny (model P w) callerA (.call (.ref fa) ⟨[.ref a], []⟩)
      (fun r s2 => r = .ok (.ret (.bool true)) ∧ OldK t0.heap s2.heap ∧ s2.os = t0.os ∧ AllBare s2.gens) t0 := by
  have vals : Vals (ns.map V.int) us := vals_ints hints
  have same := hints.length
  -- over any abstract heap that tracks nothing but the script
  have main : ∀ H : Hp, (∀ b u, H b = some u → b = a ∧ K.lookup a = none ∧ ∃ o ys, u = .frz o (.lst ys)) → SqL K H a (ns.map V.int) → HOk P w H t0.heap →
      codeAny (model P w) callerA (.call (.ref fa) ⟨[.ref a], []⟩)
        (fun r s2 => r = .ok (.ret (.bool true)) ∧ OldK t0.heap s2.heap ∧ s2.os = t0.os ∧ AllBare s2.gens) t0 := by
    intro H only sq ok
    have noDict : ∀ {b : Addr} {o : Obj} {es : Array DictEntry} {ep : Nat}, t0.heap.get? b = some o → o.data = .dict es ep → H b = none := by
      intro b o es ep e dd
      cases q : H b with
      | none => rfl
      | some u =>
        obtain ⟨rfl, _⟩ := only b u q
        rw [at'] at e
        cases e
        cases dd
    have ns' : ∀ {b : Addr} {m : Str → Option Value}, t0.heap.Ns b m → (hidT t0.heap H).Ns b m := by
      rintro b m ⟨o, es, ep, e, dd, r⟩
      exact ⟨o, es, ep, hidT_get e (noDict e dd), dd, r⟩
    have inB : K.In (hidT t0.heap H) := by
      intro b o e
      refine hidT_get (inK b o e) ?_
      cases q : H b with
      | none => rfl
      | some u =>
        obtain ⟨rfl, z, _⟩ := only b u q
        rw [z] at e
        cases e
    obtain ⟨mc, l1, l2⟩ := lim
    have md : Mod K mg (hidT t0.heap H) := ⟨inB, ns' gl, ⟨mb, ns' bl, blt⟩, mc, ns' l1, l2⟩
    have env : Env0 P w K mg (hidT t0.heap H) callerA [] t0 H :=
      ⟨rfl, md, fun b o e => of_hidT e, Nat.le_of_eq (hidT_size _ _), trivial, fun b hb => absurd hb List.not_mem_nil, ok, AllBare.of_eq nog⟩
    refine codeAny_mono ((F _ inB (ns' gl)).go callerA [] t0 H ⟨[.ref a], []⟩ [.ref a] [.ref a] _ _ room rfl env (bind t0 (.ref a)) (.cons rfl .nil) (want H sq)) ?_
    intro r s2 out
    cases r with
    | error u => exact False.elim out
    | ok fl =>
      cases fl with
      | next => exact False.elim out
      | brk => exact False.elim out
      | cont => exact False.elim out
      | ret u =>
        obtain ⟨v, H2, os, bare, un, ok2, rv, q⟩ := out
        obtain rfl : v = .bl true := q
        obtain rfl : u = Value.bool true := rv
        refine ⟨rfl, OldK.of_keep ?_, os, bare⟩
        intro b o e
        cases z : H b with
        | none => exact un.keep b o e z (by intro y; cases y) (by simp)
        | some u =>
          obtain ⟨_, _, ob, ys, rfl⟩ := only b u z
          obtain ⟨e1, _⟩ := ok b _ z
          obtain ⟨e2, _⟩ := ok2 b _ (un.frzs b ob _ z)
          rw [e] at e1
          cases e1
          exact e2
  cases lk : K.lookup a with
  | some o =>
    have e := inK a o lk
    rw [at'] at e
    cases e
    refine main (fun _ => none) (fun b u z => by cases z) (.inr ⟨_, us.toArray, _, lk, rfl, rfl, rfl, ?_, by simpa using vals⟩) (fun b u z => by cases z)
    rw [List.size_toArray, same]
    exact short
  | none =>
    refine main (fun b => if b = a then some (.frz { cls := .type "list", data := .seq us.toArray } (.lst (ns.map V.int))) else none) ?_ (.inl (.inr ⟨_, if_pos rfl⟩)) ?_
    · intro b u z
      by_cases hb : b = a
      · have z2 := (if_pos hb).symm.trans z
        cases z2
        exact ⟨hb, lk, _, _, rfl⟩
      · have z2 := (if_neg hb).symm.trans z
        cases z2
    · intro b u z
      by_cases hb : b = a
      · have z2 := (if_pos hb).symm.trans z
        subst hb
        cases z2
        exact ⟨at', by rw [List.length_map]; exact short, us, _, vals, at'⟩
      · have z2 := (if_neg hb).symm.trans z
        cases z2
/-- what k_head leaves, from the promise of the law's def -/
theorem walkG {l : PySem.W.OpenLaw} {n k : Nat} {q : Program} {loose : List Str} {XP : (Str → Option Value) → Heap → Prop} {YP : World → Heap → Prop} {d : DefRec}
    {K : Params → PySem.W.Frag} {sp : World → Sp} {x : Str} (hn : l.most = some n) (hn2 : n ≤ sizeLine) (hdf : d.params.defaults = []) (hr : Room k callerA)
    (hY : ∀ (w : World) (h : Heap), YP w h → (K w.params).In h)
    (F : ∀ (w : World) (mg : Str → Option Value) (fa : Addr) (h : Heap), (K w.params).In h → h.Ns mainGlobals mg → mg d.name = some (.ref fa) →
      ∃ fd : FuncData, (∀ (s : Shared) (u : Value), BindsTo s fd ⟨[u], []⟩ [(x, u)]) ∧
        ∀ base : Heap, (K w.params).In base → base.Ns mainGlobals mg → FnG l.prog w (K w.params) mg base k fa fd [x] (sp w))
    (want : ∀ (w : World) (H : Hp) (a : Addr) (ns : List Int), ns.length ≤ n → SqL (K w.params) H a (ns.map V.int) → sp w [.ref a] H (fun v _ => v = .bl true) fun _ _ _ => False) :
    PySem.W.WalkO q loose XP YP l.row.toRowW d [] (fun f vs => PySem.call f vs) := by
  refine Att.attach_callB hn hdf ?_
  intro w s0 s1 mg mb fa o pm cd doc a vs ns G Y ho hd hcd hmg hobj hints hlen _ hg
  obtain ⟨fd, hb, hF⟩ := F w mg fa _ (hY w _ Y) G.T.g hmg
  exact lawG (hY w _ Y) G.T.g G.T.b G.T.builtins G.T.nolimit hg hobj hints (Nat.le_trans hlen hn2) hr hF hb fun H hS => want w H a ns hlen hS
end Lr

namespace Lr
open PySem L2 PySem.Spec PyProof.Rows
def keyD : Key → PyData
  | .inl i => .int i
  | .inr x => .str x
/-! ### data: what a value is, whatever it holds -/
mutual
inductive Dv (H : Hp) : V → PyData → Prop
  | non : Dv H .non .none
  | bl (b : Bool) : Dv H (.bl b) (.bool b)
  | int (i : Int) : Dv H (.int i) (.int i)
  | str (x : Str) : Dv H (.str x) (.str x)
  | lst {a : Addr} {xs : List V} {ds : List PyData} : H a = some (.lst xs) → DvAll H xs ds → Dv H (.ref a) (.list ds)
  | tup {a : Addr} {xs : List V} {ds : List PyData} : H a = some (.tup xs) → DvAll H xs ds → Dv H (.ref a) (.tuple ds)
  | dic {a : Addr} {kvs : List (Key × V)} {ds : List (PyData × PyData)} : H a = some (.dK kvs) → DvKv H kvs ds → Dv H (.ref a) (.dict ds)
inductive DvAll (H : Hp) : List V → List PyData → Prop
  | nil : DvAll H [] []
  | cons {v : V} {vs : List V} {d : PyData} {ds : List PyData} : Dv H v d → DvAll H vs ds → DvAll H (v :: vs) (d :: ds)
inductive DvKv (H : Hp) : List (Key × V) → List (PyData × PyData) → Prop
  | nil : DvKv H [] []
  | cons {k : Key} {v : V} {vs : List (Key × V)} {d : PyData} {ds : List (PyData × PyData)} : Dv H v d → DvKv H vs ds → DvKv H ((k, v) :: vs) ((keyD k, d) :: ds)
end
mutual
def hasList : PyData → Bool
  | .list _ => true
  | .tuple xs => hasListAll xs
  | .dict kvs => hasListKv kvs
  | _ => false
def hasListAll : List PyData → Bool
  | [] => false
  | x :: xs => hasList x || hasListAll xs
def hasListKv : List (PyData × PyData) → Bool
  | [] => false
  | (_, v) :: xs => hasList v || hasListKv xs
end
section
variable {H H' : Hp}
mutual
theorem Dv.mono (e : Ex H H') : ∀ {v : V} {d : PyData}, Dv H v d → Dv H' v d
  | _, _, .non => .non
  | _, _, .bl b => .bl b
  | _, _, .int i => .int i
  | _, _, .str x => .str x
  | _, _, .lst h t => .lst (e _ _ h) (DvAll.mono e t)
  | _, _, .tup h t => .tup (e _ _ h) (DvAll.mono e t)
  | _, _, .dic h t => .dic (e _ _ h) (DvKv.mono e t)
theorem DvAll.mono (e : Ex H H') : ∀ {v : List V} {d : List PyData}, DvAll H v d → DvAll H' v d
  | _, _, .nil => .nil
  | _, _, .cons a b => .cons (Dv.mono e a) (DvAll.mono e b)
theorem DvKv.mono (e : Ex H H') : ∀ {v : List (Key × V)} {d : List (PyData × PyData)}, DvKv H v d → DvKv H' v d
  | _, _, .nil => .nil
  | _, _, .cons a b => .cons (Dv.mono e a) (DvKv.mono e b)
end
theorem DvAll.len : ∀ {vs : List V} {ds : List PyData}, DvAll H vs ds → vs.length = ds.length
  | _, _, .nil => rfl
  | _, _, .cons _ t => congrArg (· + 1) t.len
theorem DvAll.app : ∀ {vs ws : List V} {ds es : List PyData}, DvAll H vs ds → DvAll H ws es → DvAll H (vs ++ ws) (ds ++ es)
  | _, _, _, _, .nil, s => s
  | _, _, _, _, .cons a t, s => .cons a (t.app s)
theorem DvAll.get : ∀ {vs : List V} {ds : List PyData} {i : Nat} {v : V}, DvAll H vs ds → vs[i]? = some v → ∃ d, ds[i]? = some d ∧ Dv H v d
  | _, _, _, _, .nil, e => by simp at e
  | _, _, 0, _, .cons a _, e => by simp at e; subst e; exact ⟨_, rfl, a⟩
  | _, _, i + 1, _, .cons _ t, e => by
    obtain ⟨d, h1, h2⟩ := t.get (i := i) (by simpa using e)
    exact ⟨d, by simpa using h1, h2⟩
theorem DvAll.getD : ∀ {vs : List V} {ds : List PyData} {i : Nat} {d : PyData}, DvAll H vs ds → ds[i]? = some d → ∃ v, vs[i]? = some v ∧ Dv H v d
  | _, _, _, _, .nil, e => by simp at e
  | _, _, 0, _, .cons a _, e => by simp at e; subst e; exact ⟨_, rfl, a⟩
  | _, _, i + 1, _, .cons _ t, e => by
    obtain ⟨v, h1, h2⟩ := t.getD (i := i) (by simpa using e)
    exact ⟨v, by simpa using h1, h2⟩
theorem DvAll.take : ∀ {vs : List V} {ds : List PyData} (n : Nat), DvAll H vs ds → DvAll H (vs.take n) (ds.take n)
  | _, _, 0, _ => .nil
  | _, _, _ + 1, .nil => .nil
  | _, _, n + 1, .cons a t => .cons a (t.take n)
theorem DvAll.drop : ∀ {vs : List V} {ds : List PyData} (n : Nat), DvAll H vs ds → DvAll H (vs.drop n) (ds.drop n)
  | _, _, 0, t => t
  | _, _, _ + 1, .nil => .nil
  | _, _, n + 1, .cons _ t => t.drop n
theorem dv_ints (H : Hp) : ∀ ns : List Int, DvAll H (ns.map V.int) (ns.map PyData.int)
  | [] => .nil
  | n :: r => .cons (.int n) (dv_ints H r)
end
/-! ### repr of data -/
theorem key_reads {h : Heap} {k : Key} {v : Value} (e : keyIs k v = true) : Reads h v (keyD k) [] := by
  rcases keyIs_shape e with ⟨i, t, rfl, rfl⟩ | ⟨x, t, rfl, rfl⟩
  · exact .int i t
  · exact .str x t
theorem keys_read {P : Program} {w : World} {h : Heap} {H : Hp} {es : List DictEntry} {vs : List (Key × Value)} (p : Pairs (mixKind P w) es vs) :
    ∀ {kvs : List (Key × V)} {ds : List (PyData × PyData)}, KV kvs vs → DvKv H kvs ds → ReadsAll h (es.map (·.key)) (ds.map (·.1)) [] := by
  induction p with
  | nil =>
    intro kvs ds q z
    cases q
    cases z
    exact .nil
  | cons h1 _ _ ih =>
    intro kvs ds q z
    cases q with
    | cons r q =>
      cases z with
      | cons a z =>
        have e := r.1
        simp only at e
        rw [← e] at h1
        exact ReadsAll.cons (as := []) (bs := []) (key_reads h1) (ih q z)
section
variable {X : Cx} {pins : List (Addr × Obj)} {σ : L2.St} {H : Hp} {s : Shared}
mutual
theorem Dv.reads (I : Inv X pins σ H s) : ∀ {v : V} {d : PyData} {u : Value}, Dv H v d → RelV v u → ∃ as, Reads s.heap u d as ∧ (hasList d = false → sysModules ∉ as)
  | _, _, _, .non, r => by cases r; exact ⟨[], .none, fun _ => List.not_mem_nil⟩
  | _, _, _, .bl b, r => by cases r; exact ⟨[], .bool b, fun _ => List.not_mem_nil⟩
  | _, _, _, .int i, r => by obtain ⟨t, rfl⟩ := r; exact ⟨[], .int i t, fun _ => List.not_mem_nil⟩
  | _, _, _, .str x, r => by obtain ⟨t, rfl⟩ := r; exact ⟨[], .str x t, fun _ => List.not_mem_nil⟩
  | _, _, _, .lst h t, r => by
    cases r
    obtain ⟨_, its, n, rv, e⟩ := I.hok _ _ h
    obtain ⟨as, q, _⟩ := DvAll.reads I t rv
    exact ⟨_ :: as, .list e rfl rfl (by simpa using q), fun z => by simp [hasList] at z⟩
  | _, _, _, .tup h t, r => by
    cases r
    obtain ⟨_, its, rv, o, e, hc, n, hd⟩ := I.hok _ _ h
    obtain ⟨as, q, z⟩ := DvAll.reads I t rv
    exact ⟨as, .tuple e hc hd (by simpa using q), fun y => z (by simpa [hasList] using y)⟩
  | _, _, _, .dic h t, r => by
    cases r
    obtain ⟨_, ns, vs, kv, o, es, ep, e, hx, hd, _, hp, _⟩ := I.hok _ _ h
    obtain ⟨bs, q, z⟩ := DvKv.reads I t kv hp
    refine ⟨_ :: [] ++ bs, .dict e hx.1 hd (keys_read hp kv t) q, fun y hm => ?_⟩
    have y2 := z (by simpa [hasList] using y)
    rcases List.mem_cons.mp (by simpa using hm) with rfl | hm
    · simp at ns
    · exact y2 hm
theorem DvAll.reads (I : Inv X pins σ H s) : ∀ {vs : List V} {ds : List PyData} {us : List Value}, DvAll H vs ds → Vals vs us → ∃ as, ReadsAll s.heap us ds as ∧ (hasListAll ds = false → sysModules ∉ as)
  | _, _, _, .nil, .nil => ⟨[], .nil, fun _ => List.not_mem_nil⟩
  | _, _, _, .cons a b, .cons r q => by
    obtain ⟨as, h1, z1⟩ := Dv.reads I a r
    obtain ⟨bs, h2, z2⟩ := DvAll.reads I b q
    refine ⟨as ++ bs, .cons h1 h2, fun y hm => ?_⟩
    simp only [hasListAll, Bool.or_eq_false_iff] at y
    rcases List.mem_append.mp hm with m | m
    · exact z1 y.1 m
    · exact z2 y.2 m
theorem DvKv.reads (I : Inv X pins σ H s) : ∀ {kvs : List (Key × V)} {ds : List (PyData × PyData)} {vs : List (Key × Value)} {es : List DictEntry}, DvKv H kvs ds → KV kvs vs → Pairs (mixKind X.prog X.w) es vs →
    ∃ bs, ReadsAll s.heap (es.map (·.val)) (ds.map (·.2)) bs ∧ (hasListKv ds = false → sysModules ∉ bs)
  | _, _, _, _, .nil, .nil, .nil => ⟨[], .nil, fun _ => List.not_mem_nil⟩
  | _, _, _, _, .cons a b, .cons r q, .cons h1 h2 t => by
    obtain ⟨as, g1, z1⟩ := Dv.reads I a r.2
    obtain ⟨bs, g2, z2⟩ := DvKv.reads I b q t
    refine ⟨as ++ bs, .cons (by show Reads s.heap (DictEntry.val _) _ as; rw [h2]; exact g1) g2, fun y hm => ?_⟩
    simp only [hasListKv, Bool.or_eq_false_iff] at y
    rcases List.mem_append.mp hm with m | m
    · exact z1 y.1 m
    · exact z2 y.2 m
end
end
/-- what repr can show: small enough, and no list beside a dict, but for one just made -/
structure Fit (d : PyData) : Prop where
  sh : d.showable = true
  len : d.shown.length ≤ sizeLine
  dep : d.depth ≤ 60
def NoSys (v : V) (d : PyData) : Prop := hasList d = false ∨ ∃ p ds, v = .ref p ∧ d = .list ds ∧ p ≠ sysModules ∧ hasListAll ds = false
def rRepr : List V → Hp → VK → Prop := fun xs H Q => ∃ v d, xs = [v] ∧ Dv H v d ∧ Fit d ∧ (d.hasDict = true → NoSys v d) ∧ Q (.str d.shown) H
theorem reads_fit {X : Cx} {pins : List (Addr × Obj)} {σ : L2.St} {H : Hp} {s : Shared} {v : V} {d : PyData} {u : Value} (I : Inv X pins σ H s) (hd : Dv H v d) (rv : RelV v u) (ns : d.hasDict = true → NoSys v d) :
    ∃ as, Reads s.heap u d as ∧ (d.hasDict = true → sysModules ∉ as) := by
  by_cases hh : d.hasDict = true
  · rcases ns hh with n | ⟨p, ds, rfl, rfl, np, nl⟩
    · obtain ⟨as, r, z⟩ := Dv.reads I hd rv
      exact ⟨as, r, fun _ => z n⟩
    · cases rv
      cases hd with
      | lst h t =>
        obtain ⟨_, its, n, rv2, e⟩ := I.hok _ _ h
        obtain ⟨as, q, z⟩ := DvAll.reads I t rv2
        refine ⟨p :: as, .list e rfl rfl (by simpa using q), fun _ hm => ?_⟩
        rcases List.mem_cons.mp hm with e | hm
        · exact np e.symm
        · exact z nl hm
  · obtain ⟨as, r, _⟩ := Dv.reads I hd rv
    exact ⟨as, r, fun z => absurd z hh⟩
theorem call_repr {X : Cx} (hg : X.A.guards = some []) (hu : X.A.units + 64 < cLine) : CallR X (.builtin "repr") rRepr := by
  intro pins s σ H xs us Q I r h
  obtain ⟨v, d, rfl, hd, f, ns, q⟩ := h
  obtain ⟨u, rfl, rv⟩ := vals1 r
  have hdep := f.dep
  obtain ⟨as, rd, hs⟩ := reads_fit I hd rv ns
  have fin : ∀ (h' : Heap) (tk : Nat) (t : Tok), (∀ b o, s.heap.get? b = some o → h'.get? b = some o) → EP X pins σ Q (.str d.shown t) { s with heap := h', toks := tk } :=
    fun h' tk t k => ⟨.str d.shown, H, I.kept k, ⟨_, rfl⟩, q⟩
  cases hd with
  | non =>
    cases rv
    exact PySem.P.repr_of_none (fin s.heap _ _ fun _ _ e => e)
  | bl b =>
    cases rv
    exact PySem.P.repr_of_bool (fin s.heap _ _ fun _ _ e => e)
  | int i =>
    obtain ⟨t, rfl⟩ := rv
    exact PySem.P.repr_of_int (by simpa [PyData.showable] using f.sh) (fin s.heap _ _ fun _ _ e => e)
  | str x =>
    obtain ⟨t, rfl⟩ := rv
    exact PySem.P.repr_of_str (fin s.heap _ _ fun _ _ e => e) (by simpa [PyData.shown] using f.len)
  | lst h t =>
    cases rv
    exact repr_of_reads' rd f.sh hs hg (by omega) (fun _ _ e => e) (fun h' u tk k => fin h' tk u k) f.len
  | tup h t =>
    cases rv
    exact repr_of_reads' rd f.sh hs hg (by omega) (fun _ _ e => e) (fun h' u tk k => fin h' tk u k) f.len
  | dic h t =>
    cases rv
    exact repr_of_reads' rd f.sh hs hg (by omega) (fun _ _ e => e) (fun h' u tk k => fin h' tk u k) f.len
/-- a list display, its place told as no old one -/
def tLstN (t : TA) : TE := fun σ H Q => t σ H fun xs H1 => xs.length ≤ sizeLine ∧ ∀ p, H1 p = none → p ≠ sysModules → Q (.ref p) (upd H1 p (.lst xs))
theorem pe_lstN {X : Cx} {es : List Expr} {t : TA} {pos : Pos} (h : PA X es t) : PE X (.List es pos) (tLstN t) := by
  refine ⟨fun pins s σ H Q I hq => ?_⟩
  refine wpAny_List_spliced (thn (h.run pos pins s σ H _ I hq) ?_)
  rintro us s1 ⟨xs, H1, I1, r, z, q⟩
  refine ⟨by rw [← r.length]; exact z, ?_⟩
  have low : sysModules ≠ s1.heap.objs.size := by
    obtain ⟨o, _, _, e, _⟩ := I1.ok.mod.glob
    have h1 := Heap.lt_size e
    have h2 : sysModules < mainGlobals := by decide
    exact Nat.ne_of_lt (Nat.lt_of_lt_of_le (Nat.lt_trans h2 h1) (Nat.le_trans I1.ok.bsz I1.sz))
  have new : ObjOk X.prog X.w (upd H1 s1.heap.objs.size (.lst xs)) (s1.heap.push { cls := .type "list", data := .seq us.toArray }) s1.heap.objs.size (.lst xs) :=
    ⟨z, us, 0, r, Heap.get?_push_size _ rfl⟩
  exact ⟨.ref s1.heap.objs.size, _, I1.laid (t' := s1.toks) (fun b u e => Heap.get?_push_of_some _ e) (Nat.le_refl _) new, rfl, q _ (I1.hok.fresh (Nat.le_refl _)) low.symm⟩
end Lr

namespace Lr
open PySem L2
/-- the built-in names that the text leaves alone -/
structure Blt (mg : Str → Option Value) : Prop where
  len : mg "len" = none
  range : mg "range" = none
  tuple : mg "tuple" = none
  list : mg "list" = none
  abs : mg "abs" = none
  int : mg "int" = none
  str : mg "str" = none
  bool : mg "bool" = none
  repr : mg "repr" = none
  isinstance : mg "isinstance" = none
  enumerate : mg "enumerate" = none
  sorted : mg "sorted" = none
  set : mg "set" = none
  all : mg "all" = none
  min : mg "min" = none
  max : mg "max" = none
  any : mg "any" = none
  zip : mg "zip" = none
  sum : mg "sum" = none
  reversed : mg "reversed" = none
theorem bt_len : bootBuiltins "len" = some (.builtin "len") := by decide +kernel
theorem bt_abs : bootBuiltins "abs" = some (.builtin "abs") := by decide +kernel
theorem bt_repr : bootBuiltins "repr" = some (.builtin "repr") := by decide +kernel
theorem bt_isinstance : bootBuiltins "isinstance" = some (.builtin "isinstance") := by decide +kernel
theorem bt_sorted : bootBuiltins "sorted" = some (.builtin "sorted") := by decide +kernel
theorem bt_min : bootBuiltins "min" = some (.builtin "min") := by decide +kernel
theorem bt_max : bootBuiltins "max" = some (.builtin "max") := by decide +kernel
theorem bt_any : bootBuiltins "any" = some (.builtin "any") := by decide +kernel
theorem bt_sum : bootBuiltins "sum" = some (.builtin "sum") := by decide +kernel
theorem bt_all : bootBuiltins "all" = some (.builtin "all") := by decide +kernel
theorem bt_int : bootBuiltins "int" = some (.type "int") := by decide +kernel
theorem bt_str : bootBuiltins "str" = some (.type "str") := by decide +kernel
theorem bt_tuple : bootBuiltins "tuple" = some (.type "tuple") := by decide +kernel
theorem bt_list : bootBuiltins "list" = some (.type "list") := by decide +kernel
theorem bt_set : bootBuiltins "set" = some (.type "set") := by decide +kernel
/-! ### rules whose reading names the written part itself (for what stands in a comprehension) -/
section
variable {X : Cx} {K : PySem.W.Frag}
def rTupOf (K : PySem.W.Frag) : List V → Hp → VK → Prop := fun xs H Q => ∃ p ys, xs = [V.ref p] ∧ ((SqL K H p ys ∧ ∀ l, H l = none → Q (.ref l) (upd H l (.tup ys))) ∨ (SqT K H p ys ∧ Q (.ref p) H))
def rLstOf (K : PySem.W.Frag) : List V → Hp → VK → Prop := fun xs H Q => ∃ p ys, xs = [V.ref p] ∧ (SqL K H p ys ∨ SqT K H p ys) ∧ ∀ l, H l = none → Q (.ref l) (upd H l (.lst ys))
def rLenOf (K : PySem.W.Frag) : List V → Hp → VK → Prop := fun xs H Q => ∃ p ys, xs = [V.ref p] ∧ (SqL K H p ys ∨ SqT K H p ys) ∧ Q (.int ys.length) H
theorem k_tuple_of (h : X.K = K) : CallR X (.type "tuple") (rTupOf K) := by subst h; exact call_tuple_of
theorem k_list_of (h : X.K = K) : CallR X (.type "list") (rLstOf K) := by subst h; exact call_list_of
theorem k_len (h : X.K = K) : CallR X (.builtin "len") (rLenOf K) := by subst h; exact call_len_seq
theorem k_isi (h : X.K = K) : CallR X (.builtin "isinstance") (rIsi K) := by subst h; exact call_isi
theorem kx_list (h : X.K = K) : IxR X (rIxL K) := by subst h; exact ix_list
theorem kx_tup (h : X.K = K) : IxR X (rIxT K) := by subst h; exact ix_tup
theorem ks_list (h : X.K = K) : SlR X (rSlL K) := by subst h; exact sl_list
theorem ks_tup (h : X.K = K) : SlR X (rSlA K) := by subst h; exact sl_tupA
theorem ko_catT (h : X.K = K) : OpR X (binaryOp .Add) (rCatA K) := by subst h; exact op_catA
theorem ko_repT (h : X.K = K) : OpR X (binaryOp .Mult) (rRepT K) := by subst h; exact op_repT
theorem ko_eqD (h : X.K = K) (hu : X.A.units + 64 < cLine) : OpR X (compareOp .Eq) (rEqD K) := by subst h; exact op_eqD hu
theorem ko_neD (h : X.K = K) (hu : X.A.units + 64 < cLine) : OpR X (compareOp .NotEq) (rNeD K) := by subst h; exact op_neD hu
theorem ko_in (h : X.K = K) : OpR X (compareOp .In) (rIn K false) := by subst h; exact op_in_seq
theorem ko_notIn (h : X.K = K) : OpR X (compareOp .NotIn) (rIn K true) := by subst h; exact op_notIn_seq
theorem ki_list {tg l : Expr} {tl : TE} (h : X.K = K) (p : PE X l tl) : PI X tg l (iList K tl) := by subst h; exact pi_list p
theorem ki_tup {tg l : Expr} {tl : TE} (h : X.K = K) (p : PE X l tl) : PI X tg l (iTup K tl) := by subst h; exact pi_tup p
end
/-- a def by its name, with its promise -/
def Cal (P : Program) (w : World) (K : PySem.W.Frag) (mg : Str → Option Value) (base : Heap) (k : Nat) (x : Str) (ps : List Str) (sp : Sp) : Prop :=
  ∃ f fd, FnOk P w K mg base CX0 k f fd ps sp ∧ mg x = some (.ref f) ∧ PySem.W.keepIn K (.ref f) = true ∧ Binds K fd ps []
theorem pe_cal {X : Cx} {k : Nat} {x : Str} {ps : List Str} {sp : Sp} {e : Expr} {es : List Expr} {t : TA} {p pos : Pos} (C : Cal X.prog X.w X.K X.mg X.base k x ps sp) (hr : Room k X.A) (hg : Gl X x) (ha : PA X (e :: es) t)
    (hdb : (x == ("__debug__" : Str)) = false := by decide) (he : starEach (e :: es) X.env = (false, eval e X.env) :: starEach es X.env := by rfl) (hpl : (backTo pos (starEach es X.env)).any (·.1) = false := by rfl) :
    PE X (.Call (.Name x p) (e :: es) [] pos) (tCall sp [] E0 t) := by
  obtain ⟨f, fd, G, m, kp, b⟩ := C
  exact pe_call G hr hg m kp b .nil pass0 ha hdb he hpl
/-- a body that makes a drawer closes it ahead of its return -/
def tShut (P : Program) (w : World) (t : TS) : TS := fun D σ H => t ⟨fun _ _ => False, fun v H' => (∃ c d a tm ds, v = .ref c ∧ H' c = some (.dK (canKvs d a tm)) ∧ H' d = some (.lst (ds.map V.int)) ∧ DeepOk ds ∧ d ≠ c ∧
    D.rt v (upd (upd H' c (.ext (phiC P w c d a))) d (.ext (phiD P w d)))), fun _ _ => False, fun _ _ => False⟩ σ H
theorem pss_shut {X : Cx} {st : List Stmt} {t : TS} (h : PSs X st t) : PSs X st (tShut X.prog X.w t) := by
  refine ⟨fun pins s σ H D I hw => ?_⟩
  refine thn (h.run pins s σ _ _ I hw) fun f s1 q => ?_
  cases f with
  | next => obtain ⟨_, _, _, z⟩ := q; exact z.elim
  | brk => obtain ⟨_, _, _, z⟩ := q; exact z.elim
  | cont => obtain ⟨_, _, _, z⟩ := q; exact z.elim
  | ret v =>
    obtain ⟨x, σ', H', I2, r, c, d, a, tm, ds, rfl, e1, e2, g, hcd, z⟩ := q
    exact ⟨_, σ', _, closed I2 e1 e2 g hcd, r, z⟩
theorem at_in {α : Type} {xs : List α} {r : Int} (h0 : 0 ≤ r) (h1 : r < (xs.length : Int)) : ∃ v, v ∈ xs ∧ atI xs r = some v ∧ xs[r.toNat]? = some v := by
  have hr : r.toNat < xs.length := by omega
  have er : ((r.toNat : Nat) : Int) = r := by omega
  have q := atI_nat (List.getElem?_eq_getElem hr)
  rw [er] at q
  exact ⟨xs[r.toNat], List.getElem_mem hr, q, List.getElem?_eq_getElem hr⟩
theorem ints_of : ∀ {ys : List V}, (∀ (k : Nat) (v : V), ys[k]? = some v → ∃ z, v = .int z) → ∃ cs : List Int, ys = cs.map V.int
  | [], _ => ⟨[], rfl⟩
  | y :: r, h => by
    obtain ⟨z, rfl⟩ := h 0 y rfl
    obtain ⟨cs, rfl⟩ := ints_of (ys := r) fun k v e => h (k + 1) v (by simpa using e)
    exact ⟨z :: cs, rfl⟩
theorem cut_all {xs : List V} {n : Nat} (h : xs.length ≤ n) : cutV xs none (some (n : Int)) = xs := by
  unfold cutV
  rw [HT.sIx_none, HT.sIx_nat, Nat.min_eq_right h]
  simp
/-! ### comprehensions whose items stay known while the new list grows -/
/-- all but lists is as it was -/
def Exl (H H' : Hp) : Prop := ∀ a o, (∀ xs, o ≠ .lst xs) → H a = some o → H' a = some o
theorem Exl.refl (H : Hp) : Exl H H := fun _ _ _ h => h
theorem Exl.of {H H' : Hp} (e : Ex H H') : Exl H H' := fun a o _ h => e a o h
theorem Exl.trans {H H1 H2 : Hp} (a : Exl H H1) (b : Exl H1 H2) : Exl H H2 := fun x o n h => b x o n (a x o n h)
theorem Exl.grow {H : Hp} {D : Addr} {xs ys : List V} (h : H D = some (.lst xs)) : Exl H (upd H D (.lst ys)) := fun a o n e => by
  rw [upd_ne (ne_of e h (n xs))]
  exact e
theorem nl_tup {ds : List PyData} (h : hasList (.tuple ds) = false) : hasListAll ds = false := by simpa [hasList] using h
theorem nl_dic {ds : List (PyData × PyData)} (h : hasList (.dict ds) = false) : hasListKv ds = false := by simpa [hasList] using h
theorem nl_hd {d : PyData} {ds : List PyData} (h : hasListAll (d :: ds) = false) : hasList d = false := by simp only [hasListAll, Bool.or_eq_false_iff] at h; exact h.1
theorem nl_tl {d : PyData} {ds : List PyData} (h : hasListAll (d :: ds) = false) : hasListAll ds = false := by simp only [hasListAll, Bool.or_eq_false_iff] at h; exact h.2
theorem nk_hd {k d : PyData} {ds : List (PyData × PyData)} (h : hasListKv ((k, d) :: ds) = false) : hasList d = false := by simp only [hasListKv, Bool.or_eq_false_iff] at h; exact h.1
theorem nk_tl {k d : PyData} {ds : List (PyData × PyData)} (h : hasListKv ((k, d) :: ds) = false) : hasListKv ds = false := by simp only [hasListKv, Bool.or_eq_false_iff] at h; exact h.2
theorem nl_lst {ds : List PyData} {p : Prop} (h : hasList (.list ds) = false) : p := by simp [hasList] at h
theorem tup_nolst {xs : List V} : ∀ ys, HO.tup xs ≠ .lst ys := fun _ y => nomatch y
theorem dK_nolst {xs : List (Key × V)} : ∀ ys, HO.dK xs ≠ .lst ys := fun _ y => nomatch y
theorem yesT {σ : L2.St} {H : Hp} {A B : Hp → Prop} (h : A H) : tYes σ H (fun b H3 => if b = true then A H3 else B H3) := by
  show (if true = true then A H else B H)
  rw [if_pos rfl]
  exact h
section
variable {H H' : Hp}
mutual
theorem Dv.exl (e : Exl H H') : ∀ {v : V} {d : PyData}, Dv H v d → (hasList d = false → Dv H' v d)
  | _, _, .non => fun _ => .non
  | _, _, .bl b => fun _ => .bl b
  | _, _, .int i => fun _ => .int i
  | _, _, .str x => fun _ => .str x
  | _, _, .lst _ _ => fun z => nl_lst z
  | _, _, .tup h t => fun z => .tup (e _ _ tup_nolst h) (DvAll.exl e t (nl_tup z))
  | _, _, .dic h t => fun z => .dic (e _ _ dK_nolst h) (DvKv.exl e t (nl_dic z))
theorem DvAll.exl (e : Exl H H') : ∀ {v : List V} {d : List PyData}, DvAll H v d → (hasListAll d = false → DvAll H' v d)
  | _, _, .nil => fun _ => .nil
  | _, _, .cons a b => fun z => .cons (Dv.exl e a (nl_hd z)) (DvAll.exl e b (nl_tl z))
theorem DvKv.exl (e : Exl H H') : ∀ {v : List (Key × V)} {d : List (PyData × PyData)}, DvKv H v d → (hasListKv d = false → DvKv H' v d)
  | _, _, .nil => fun _ => .nil
  | _, _, .cons a b => fun z => .cons (Dv.exl e a (nk_hd z)) (DvKv.exl e b (nk_tl z))
end
end
/-- an item's value is told by the item's place: what M says of it holds on while other lists change -/
def Gives (te : TE) (σ : L2.St) (H1 : Hp) (M : V → Hp → Prop) : Prop := ∀ H', Ex H1 H' → ∀ Q : VK, (∀ v H2, Ex H' H2 → M v H2 → Q v H2) → te σ H' Q
section
variable {K : PySem.W.Frag} {a : Addr} {xs : List V} {te : TE} {vs : List Nat} {σ : L2.St} {H1 : Hp} {D : Addr} {Qd : Hp → Prop} {j : Nat}
theorem made_turn {i : Nat} {M : Nat → V → Hp → Prop} {σ2 : L2.St} {H' : Hp} {ys : List V} (hD : H1 D = none) (st : ∀ i v G G', Ex H1 G → Ex H1 G' → Exl G G' → M i v G → M i v G') (e : Ex H1 H') (hy : H' D = some (.lst ys)) (hl : ys.length = i) (hi : i < 100000)
    (hm : ∀ (k : Nat) (v : V), ys[k]? = some v → M k v H') (he : Gives te σ2 H1 (M i)) :
    te σ2 H' fun y H4 => ∃ acc, H4 D = some (.lst acc) ∧ acc.length < sizeLine ∧ ∃ zs : List V, zs.length = i + 1 ∧ Ex H1 (upd H4 D (.lst (acc ++ [y]))) ∧ upd H4 D (.lst (acc ++ [y])) D = some (.lst zs) ∧ ∀ (k : Nat) (v : V), zs[k]? = some v → M k v (upd H4 D (.lst (acc ++ [y]))) := by
  refine he H' e _ fun v H2 e2 m => ⟨ys, e2 _ _ hy, by rw [hl]; exact Evl.sz_lt hi, ys ++ [v], by simp [hl], Evl.Ex.mut (e.trans e2) hD, upd_same, fun k u hk => ?_⟩
  have g : Exl H2 (upd H2 D (.lst (ys ++ [v]))) := Exl.grow (e2 _ _ hy)
  have e3 : Ex H1 (upd H2 D (.lst (ys ++ [v]))) := Evl.Ex.mut (e.trans e2) hD
  by_cases hk2 : k < ys.length
  · rw [List.getElem?_append_left hk2] at hk
    exact st k u H' _ e e3 ((Exl.of e2).trans g) (hm k u hk)
  · have hz := (List.getElem?_eq_some_iff.mp hk).1
    have ek : k = i := by simp at hz; omega
    subst ek
    rw [List.getElem?_append_right (by omega), hl] at hk
    simp at hk
    subst hk
    exact st k v H2 _ (e.trans e2) e3 g m
/-- [e for x in a list] -/
theorem made_list (M : Nat → V → Hp → Prop) (hD : H1 D = none) (hx : SqL K H1 a xs) (hn : xs.length < 100000) (st : ∀ i v G G', Ex H1 G → Ex H1 G' → Exl G G' → M i v G → M i v G')
    (hw : ∀ x, wipe ((wipe σ vs).set j (some x)) vs = wipe σ vs) (he : ∀ i x, xs[i]? = some x → Gives te ((wipe σ vs).set j (some x)) H1 (M i))
    (hd : ∀ (ys : List V) H', ys.length = xs.length → Ex H1 H' → H' D = some (.lst ys) → (∀ (k : Nat) (v : V), ys[k]? = some v → M k v H') → Qd H') :
    ∃ W : Nat → Nat → Hp → Prop, (∃ m, W 0 m (upd H1 D (.lst []))) ∧ ∀ i m H, W i m H →
      ((Itl K a).stop i H ∧ Qd H) ∨ ((Itl K a).go i H ∧ ∃ Nx : Hp → Prop, (∀ H', Nx H' → ∃ m', m' < m ∧ W (i + 1) m' H') ∧ ∀ x H', (Itl K a).yld i H x H' → gName j x (wipe σ vs) H' fun σ2 H2 => wipe σ2 vs = wipe σ vs ∧ tYes σ2 H2 fun b H3 =>
        if b = true then te σ2 H3 fun y H4 => ∃ acc, H4 D = some (.lst acc) ∧ acc.length < sizeLine ∧ Nx (upd H4 D (.lst (acc ++ [y]))) else Nx H3) :=
  lc_list (xs := xs) (fun i H' => ∃ zs : List V, zs.length = i ∧ Ex H1 H' ∧ H' D = some (.lst zs) ∧ ∀ (k : Nat) (v : V), zs[k]? = some v → M k v H') ⟨[], rfl, Evl.Ex.new hD, upd_same, fun k v z => by simp at z⟩
    (fun i H' _ ⟨_, _, e, _⟩ => Evl.ex_l e hx) (fun i x H' hi ⟨zs, hl, e, hy, hm⟩ => by
      have lt := (List.getElem?_eq_some_iff.mp hi).1
      exact ⟨hw x, yesT (made_turn hD st e hy hl (by omega) hm (he i x hi))⟩)
    (fun H' ⟨zs, hl, e, hy, hm⟩ => hd zs H' hl e hy hm)
/-- [e for x in a tuple] -/
theorem made_tup (M : Nat → V → Hp → Prop) (hD : H1 D = none) (hx : SqT K H1 a xs) (hn : xs.length < 100000) (st : ∀ i v G G', Ex H1 G → Ex H1 G' → Exl G G' → M i v G → M i v G')
    (hw : ∀ x, wipe ((wipe σ vs).set j (some x)) vs = wipe σ vs) (he : ∀ i x, xs[i]? = some x → Gives te ((wipe σ vs).set j (some x)) H1 (M i))
    (hd : ∀ (ys : List V) H', ys.length = xs.length → Ex H1 H' → H' D = some (.lst ys) → (∀ (k : Nat) (v : V), ys[k]? = some v → M k v H') → Qd H') :
    ∃ W : Nat → Nat → Hp → Prop, (∃ m, W 0 m (upd H1 D (.lst []))) ∧ ∀ i m H, W i m H →
      ((Itt K a).stop i H ∧ Qd H) ∨ ((Itt K a).go i H ∧ ∃ Nx : Hp → Prop, (∀ H', Nx H' → ∃ m', m' < m ∧ W (i + 1) m' H') ∧ ∀ x H', (Itt K a).yld i H x H' → gName j x (wipe σ vs) H' fun σ2 H2 => wipe σ2 vs = wipe σ vs ∧ tYes σ2 H2 fun b H3 =>
        if b = true then te σ2 H3 fun y H4 => ∃ acc, H4 D = some (.lst acc) ∧ acc.length < sizeLine ∧ Nx (upd H4 D (.lst (acc ++ [y]))) else Nx H3) :=
  lc_tup (xs := xs) (fun i H' => ∃ zs : List V, zs.length = i ∧ Ex H1 H' ∧ H' D = some (.lst zs) ∧ ∀ (k : Nat) (v : V), zs[k]? = some v → M k v H') ⟨[], rfl, Evl.Ex.new hD, upd_same, fun k v z => by simp at z⟩
    (fun i H' _ ⟨_, _, e, _⟩ => Evl.ex_t e hx) (fun i x H' hi ⟨zs, hl, e, hy, hm⟩ => by
      have lt := (List.getElem?_eq_some_iff.mp hi).1
      exact ⟨hw x, yesT (made_turn hD st e hy hl (by omega) hm (he i x hi))⟩)
    (fun H' ⟨zs, hl, e, hy, hm⟩ => hd zs H' hl e hy hm)
/-- [e for k in range(n)] -/
theorem made_range {n : Nat} (M : Nat → V → Hp → Prop) (hD : H1 D = none) (hn : n < 100000) (st : ∀ i v G G', Ex H1 G → Ex H1 G' → Exl G G' → M i v G → M i v G')
    (hw : ∀ x, wipe ((wipe σ vs).set j (some x)) vs = wipe σ vs) (he : ∀ i : Nat, i < n → Gives te ((wipe σ vs).set j (some (.int (i : Int)))) H1 (M i))
    (hd : ∀ (ys : List V) H', ys.length = n → Ex H1 H' → H' D = some (.lst ys) → (∀ (k : Nat) (v : V), ys[k]? = some v → M k v H') → Qd H') :
    ∃ W : Nat → Nat → Hp → Prop, (∃ m, W 0 m (upd H1 D (.lst []))) ∧ ∀ i m H, W i m H →
      ((Itr 0 n).stop i H ∧ Qd H) ∨ ((Itr 0 n).go i H ∧ ∃ Nx : Hp → Prop, (∀ H', Nx H' → ∃ m', m' < m ∧ W (i + 1) m' H') ∧ ∀ x H', (Itr 0 n).yld i H x H' → gName j x (wipe σ vs) H' fun σ2 H2 => wipe σ2 vs = wipe σ vs ∧ tYes σ2 H2 fun b H3 =>
        if b = true then te σ2 H3 fun y H4 => ∃ acc, H4 D = some (.lst acc) ∧ acc.length < sizeLine ∧ Nx (upd H4 D (.lst (acc ++ [y]))) else Nx H3) :=
  lc_range (lo := 0) (n := n) (fun i H' => ∃ zs : List V, zs.length = i ∧ Ex H1 H' ∧ H' D = some (.lst zs) ∧ ∀ (k : Nat) (v : V), zs[k]? = some v → M k v H') ⟨[], rfl, Evl.Ex.new hD, upd_same, fun k v z => by simp at z⟩
    (fun i H' hi ⟨zs, hl, e, hy, hm⟩ => by
      have g := made_turn hD st e hy hl (by omega) hm (he i hi)
      have e0 : (0 : Int) + (i : Int) = (i : Int) := Int.zero_add _
      show wipe ((wipe σ vs).set j (some (.int (0 + (i : Int))))) vs = wipe σ vs ∧ tYes ((wipe σ vs).set j (some (.int (0 + (i : Int))))) H' _
      rw [e0]
      exact ⟨hw _, yesT g⟩)
    (fun H' ⟨zs, hl, e, hy, hm⟩ => hd zs H' hl e hy hm)
end
/-! ### tuples cut and joined: some tuple of that content, new or old -/
section
variable {K : PySem.W.Frag} {H : Hp} {a b : Addr} {xs ys : List V} {Q : VK}
theorem cut_whole {lo hi : Option Int} (h : HT.sIx xs.length 0 lo = 0 ∧ HT.sIx xs.length xs.length hi = xs.length) : cutV xs lo hi = xs := by
  unfold cutV
  rw [h.1, h.2]
  simp
theorem sl_at {lo hi : Option Int} (h : H a = some (.tup xs)) (k : ∀ b H', Ex H H' → H' b = some (.tup (cutV xs lo hi)) → Q (.ref b) H') : rSlA K (.ref a) lo hi H Q :=
  ⟨a, xs, rfl, SqT.of h, fun w => k a H (Evl.Ex.refl H) (by rw [cut_whole w]; exact h), fun _ p hp => k p _ (Evl.Ex.new hp) upd_same⟩
theorem cat_at (h1 : H a = some (.tup xs)) (h2 : H b = some (.tup ys)) (hl : xs.length + ys.length ≤ 100000) (k : ∀ p H', Ex H H' → H' p = some (.tup (xs ++ ys)) → Q (.ref p) H') : rCatA K (.ref a) (.ref b) H Q :=
  ⟨a, b, xs, ys, rfl, rfl, SqT.of h1, SqT.of h2, Evl.sz_of hl, fun z => k b H (Evl.Ex.refl H) (by subst z; exact h2), fun _ z => k a H (Evl.Ex.refl H) (by subst z; rw [List.append_nil]; exact h1), fun _ _ p hp => k p _ (Evl.Ex.new hp) upd_same⟩
end
theorem cut_from {xs : List V} {k : Nat} : cutV xs (some (k : Int)) none = xs.drop k := by
  unfold cutV
  rw [HT.sIx_none, HT.sIx_nat]
  by_cases h : k ≤ xs.length
  · rw [Nat.min_eq_left h, List.take_of_length_le (by simp)]
  · rw [Nat.min_eq_right (by omega), List.drop_of_length_le (Nat.le_refl _), List.drop_of_length_le (by omega)]
    simp
theorem cut_to {xs : List V} {k : Nat} : cutV xs none (some (k : Int)) = xs.take k := by
  unfold cutV
  rw [HT.sIx_none, HT.sIx_nat]
  by_cases h : k ≤ xs.length
  · rw [Nat.min_eq_left h]
    simp
  · rw [Nat.min_eq_right (by omega)]
    simp [List.take_of_length_le (show xs.length ≤ k by omega)]
/-! ### [x for x in a tuple if ..] -/
section
variable {K : PySem.W.Frag} {a : Addr} {xs : List V} {tt : TT} {te : TE} {vs : List Nat} {σ : L2.St} {H1 : Hp} {D : Addr} {Qd : Hp → Prop} {j : Nat}
theorem filt_tup (f : V → Bool) (hD : H1 D = none) (hx : SqT K H1 a xs) (hn : xs.length < 100000) (hw : ∀ x, wipe ((wipe σ vs).set j (some x)) vs = wipe σ vs)
    (ht : ∀ x H', x ∈ xs → Ex H1 H' → ∀ Q : Bool → Hp → Prop, Q (f x) H' → tt ((wipe σ vs).set j (some x)) H' Q) (he : ∀ x H', Ex H1 H' → ∀ Q : VK, Q x H' → te ((wipe σ vs).set j (some x)) H' Q)
    (hd : ∀ H', Ex H1 H' → H' D = some (.lst (xs.filter f)) → Qd H') :
    ∃ W : Nat → Nat → Hp → Prop, (∃ m, W 0 m (upd H1 D (.lst []))) ∧ ∀ i m H, W i m H →
      ((Itt K a).stop i H ∧ Qd H) ∨ ((Itt K a).go i H ∧ ∃ Nx : Hp → Prop, (∀ H', Nx H' → ∃ m', m' < m ∧ W (i + 1) m' H') ∧ ∀ x H', (Itt K a).yld i H x H' → gName j x (wipe σ vs) H' fun σ2 H2 => wipe σ2 vs = wipe σ vs ∧ tt σ2 H2 fun b H3 =>
        if b = true then te σ2 H3 fun y H4 => ∃ acc, H4 D = some (.lst acc) ∧ acc.length < sizeLine ∧ Nx (upd H4 D (.lst (acc ++ [y]))) else Nx H3) := by
  refine lc_tup (xs := xs) (fun i H' => Ex H1 H' ∧ H' D = some (.lst ((xs.take i).filter f)) ∧ i ≤ xs.length) ⟨Evl.Ex.new hD, by simp [upd_same], Nat.zero_le _⟩ (fun i H' _ h => Evl.ex_t h.1 hx) ?_ ?_
  · rintro i x H' hi ⟨e, hy, hle⟩
    have lt := (List.getElem?_eq_some_iff.mp hi).1
    have hxm : x ∈ xs := List.mem_of_getElem? hi
    have step : xs.take (i + 1) = xs.take i ++ [x] := by
      rw [List.take_succ, hi]
      rfl
    refine ⟨hw x, ht x H' hxm e _ ?_⟩
    cases hf : f x with
    | true =>
      refine iteT (he x H' e _ ⟨_, hy, ?_, Evl.Ex.mut e hD, ?_, lt⟩)
      · refine Nat.lt_of_le_of_lt (List.length_filter_le _ _) (Evl.sz_lt ?_)
        rw [List.length_take]
        omega
      · rw [upd_same, step, List.filter_append]
        simp [hf]
    | false =>
      refine iteF ⟨e, ?_, lt⟩
      rw [hy, step, List.filter_append]
      simp [hf]
  · rintro H' ⟨e, hy, _⟩
    rw [List.take_of_length_le (Nat.le_refl _)] at hy
    exact hd H' e hy
end
end Lr

namespace Lr
open PySem L2
/-! ### an urn of numbers that counts its turns: its dict is known by how often it was asked at most; Ed: the urn was asked n times, all else stays -/
def noExt : HO → Bool
  | .ext _ => false
  | _ => true
def urnKvs (l : Addr) (t : Int) : List (Key × V) := [(Sum.inr "cells", .ref l), (Sum.inr "turn", .int t)]
def CellsOk (cs : List Int) : Prop := (∀ x ∈ cs, 0 ≤ x) ∧ cs ≠ [] ∧ cs.length ≤ 64
section
variable (P : Program) (w : World)
def phiU (c l : Addr) (T : Nat) : Heap → Prop := fun h => ∃ t : Int, 0 ≤ t ∧ t ≤ T ∧ ObjOk P w H0 h c (.dK (urnKvs l t))
def phiL (l : Addr) : Heap → Prop := fun h => ∃ cs : List Int, CellsOk cs ∧ ObjOk P w H0 h l (.lst (cs.map V.int))
def UrnAt (H : Hp) (c l : Addr) (T : Nat) : Prop := ∃ T', T' ≤ T ∧ H c = some (.ext (phiU P w c l T')) ∧ H l = some (.ext (phiL P w l)) ∧ l ≠ c
/-- all but what is told by ext stays -/
def Exn (H H' : Hp) : Prop := ∀ a o, noExt o = true → H a = some o → H' a = some o
/-- from H to H' all but the urn stays; the urn was asked at most T times in all -/
structure Ed (c l : Addr) (T : Nat) (H H' : Hp) : Prop where
  keep : Exn H H'
  back : ∀ a, H' a = none → H a = none
  urn : UrnAt P w H' c l T
  sc : H c ≠ none
  sl : H l ≠ none
end
section
variable {P : Program} {w : World} {H H' H2 : Hp} {c l p : Addr} {n m T T2 : Nat} {o : HO}
theorem UrnAt.le {T' : Nat} (h : UrnAt P w H c l T) (hl : T ≤ T') : UrnAt P w H c l T' := by
  obtain ⟨t, a, b⟩ := h
  exact ⟨t, by omega, b⟩
theorem UrnAt.ex (h : UrnAt P w H c l T) (e : Ex H H') : UrnAt P w H' c l T := by
  obtain ⟨t, a, b, d, f⟩ := h
  exact ⟨t, a, e _ _ b, e _ _ d, f⟩
theorem UrnAt.cc (h : UrnAt P w H c l T) : H c ≠ none := by
  obtain ⟨t, a, b, d, f⟩ := h
  rw [b]; exact fun z => nomatch z
theorem UrnAt.ll (h : UrnAt P w H c l T) : H l ≠ none := by
  obtain ⟨t, a, b, d, f⟩ := h
  rw [d]; exact fun z => nomatch z
theorem UrnAt.of (h : UrnAt P w H c l T) (e : Ex H H') : Ed P w c l T H H' := ⟨fun a o _ h => e a o h, fun _ h => Evl.fresh_back e h, h.ex e, h.cc, h.ll⟩
theorem UrnAt.rf (h : UrnAt P w H c l T) : Ed P w c l T H H := h.of (Evl.Ex.refl H)
theorem Ed.trans (a : Ed P w c l T H H') (b : Ed P w c l T2 H' H2) : Ed P w c l T2 H H2 :=
  ⟨fun x o z h => b.keep x o z (a.keep x o z h), fun x h => a.back x (b.back x h), b.urn, a.sc, a.sl⟩
theorem Ed.le (a : Ed P w c l T H H') (h : T ≤ T2) : Ed P w c l T2 H H' := ⟨a.keep, a.back, a.urn.le h, a.sc, a.sl⟩
/-- behind it, a step that leaves all as it is -/
theorem Ed.ex (a : Ed P w c l T H H') (e : Ex H' H2) : Ed P w c l T H H2 := a.trans (a.urn.of e)
theorem Ed.pre (e : Ex H H') (C : UrnAt P w H c l T) (a : Ed P w c l T2 H' H2) : Ed P w c l T2 H H2 := (C.of e).trans a
theorem Ed.new (a : Ed P w c l T H H') (h : H' p = none) : Ed P w c l T H (upd H' p o) := a.ex (Evl.Ex.new h)
theorem Ed.mut (a : Ed P w c l T H H') (h : H p = none) : Ed P w c l T H (upd H' p o) := by
  have h1 : c ≠ p := fun z => a.sc (by rw [z]; exact h)
  have h2 : l ≠ p := fun z => a.sl (by rw [z]; exact h)
  refine ⟨fun x u z e => by rw [upd_ne (ne_of_none e h)]; exact a.keep x u z e, fun x z => ?_, ?_, a.sc, a.sl⟩
  · by_cases hx : x = p
    · rw [hx]; exact h
    · rw [upd_ne hx] at z; exact a.back x z
  · obtain ⟨t, q1, q2, q3, q4⟩ := a.urn
    exact ⟨t, q1, by rw [upd_ne h1]; exact q2, by rw [upd_ne h2]; exact q3, q4⟩
theorem Ed.sq {xs : List V} (e : Ed P w c l T H H') (h : H p = some (.lst xs)) : H' p = some (.lst xs) := e.keep _ _ rfl h
theorem Ed.tu {xs : List V} (e : Ed P w c l T H H') (h : H p = some (.tup xs)) : H' p = some (.tup xs) := e.keep _ _ rfl h
theorem Ed.di {xs : List (Key × V)} (e : Ed P w c l T H H') (h : H p = some (.dK xs)) : H' p = some (.dK xs) := e.keep _ _ rfl h
mutual
theorem Dv.exn (e : Exn H H') : ∀ {v : V} {d : PyData}, Dv H v d → Dv H' v d
  | _, _, .non => .non
  | _, _, .bl b => .bl b
  | _, _, .int i => .int i
  | _, _, .str x => .str x
  | _, _, .lst h t => .lst (e _ _ rfl h) (DvAll.exn e t)
  | _, _, .tup h t => .tup (e _ _ rfl h) (DvAll.exn e t)
  | _, _, .dic h t => .dic (e _ _ rfl h) (DvKv.exn e t)
theorem DvAll.exn (e : Exn H H') : ∀ {v : List V} {d : List PyData}, DvAll H v d → DvAll H' v d
  | _, _, .nil => .nil
  | _, _, .cons a b => .cons (Dv.exn e a) (DvAll.exn e b)
theorem DvKv.exn (e : Exn H H') : ∀ {v : List (Key × V)} {d : List (PyData × PyData)}, DvKv H v d → DvKv H' v d
  | _, _, .nil => .nil
  | _, _, .cons a b => .cons (Dv.exn e a) (DvKv.exn e b)
end
theorem Dv.ed {v : V} {d : PyData} (h : Dv H v d) (e : Ed P w c l T H H') : Dv H' v d := h.exn e.keep
theorem sqL_ed {K : PySem.W.Frag} {a : Addr} {xs : List V} (e : Ed P w c l T H H') (h : SqL K H a xs) : SqL K H' a xs := by
  rcases h with (h | ⟨o, h⟩) | h
  · exact .inl (.inl (e.keep _ _ rfl h))
  · exact .inl (.inr ⟨o, e.keep _ _ rfl h⟩)
  · exact .inr h
end
section
variable {P : Program} {w : World} {H H' : Hp} {c d l : Addr} {T : Nat}
theorem stayU {h1 h2 : Heap} (x : phiU P w c l T h1) (k : ∀ o, h1.get? c = some o → h2.get? c = some o) : phiU P w c l T h2 := by
  obtain ⟨t, a, b, x⟩ := x
  refine ⟨t, a, b, ObjOk.stay x (fun b u hb e => ?_) (fun _ q => nomatch q) fun _ _ q => nomatch q⟩
  rcases hb with rfl | q
  · exact k u e
  · cases q
theorem stayL {h1 h2 : Heap} (x : phiL P w d h1) (k : ∀ o, h1.get? d = some o → h2.get? d = some o) : phiL P w d h2 := by
  obtain ⟨t, g, x⟩ := x
  refine ⟨t, g, ObjOk.stay x (fun b u hb e => ?_) (fun _ q => nomatch q) fun _ _ q => nomatch q⟩
  rcases hb with rfl | q
  · exact k u e
  · cases q
end
section
variable {X : Cx} {pins : List (Addr × Obj)} {σ : L2.St} {H : Hp} {s : Shared} {c l : Addr} {T : Nat}
theorem openU (I : Inv X pins σ H s) (h1 : H c = some (.ext (phiU X.prog X.w c l T))) (h2 : H l = some (.ext (phiL X.prog X.w l))) (hcl : l ≠ c) :
    ∃ (t : Int) (cs : List Int), 0 ≤ t ∧ t ≤ T ∧ CellsOk cs ∧ Inv X pins σ (upd (upd H c (.dK (urnKvs l t))) l (.lst (cs.map V.int))) s := by
  obtain ⟨⟨t, t0, t1, x1⟩, th1, _⟩ := I.hok c _ h1
  obtain ⟨⟨cs, g, x2⟩, th2, _⟩ := I.hok l _ h2
  have I1 := reword (o' := .dK (urnKvs l t)) I h1 trivial x1 th1
  have h3 : upd H c (.dK (urnKvs l t)) l = some (.ext (phiL X.prog X.w l)) := by rw [upd_ne hcl]; exact h2
  exact ⟨t, cs, t0, t1, g, reword (o' := .lst (cs.map V.int)) I1 h3 trivial x2 th2⟩
theorem closeU {t : Int} {cs : List Int} (I : Inv X pins σ H s) (h1 : H c = some (.dK (urnKvs l t))) (h2 : H l = some (.lst (cs.map V.int))) (t0 : 0 ≤ t) (t1 : t ≤ T) (g : CellsOk cs) (hcl : l ≠ c) :
    Inv X pins σ (upd (upd H c (.ext (phiU X.prog X.w c l T))) l (.ext (phiL X.prog X.w l))) s := by
  have x1 : ObjOk X.prog X.w H0 s.heap c (.dK (urnKvs l t)) := I.hok c _ h1
  have x2 : ObjOk X.prog X.w H0 s.heap l (.lst (cs.map V.int)) := I.hok l _ h2
  have I1 := reword (o' := .ext (phiU X.prog X.w c l T)) I h1 trivial ⟨⟨t, t0, t1, x1⟩, there_dK x1, fun _ _ p k => stayU p k⟩ (there_dK x1)
  have h3 : upd H c (.ext (phiU X.prog X.w c l T)) l = some (.lst (cs.map V.int)) := by rw [upd_ne hcl]; exact h2
  exact reword (o' := .ext (phiL X.prog X.w l)) I1 h3 trivial ⟨⟨cs, g, x2⟩, there_lst x2, fun _ _ p k => stayL p k⟩ (there_lst x2)
end
/-- a body that opens the urn, and closes it ahead of each return -/
def tUrn (P : Program) (w : World) (t : TS) : TS := fun D σ H => ∃ (c l : Addr) (T T2 : Nat), H c = some (.ext (phiU P w c l T)) ∧ H l = some (.ext (phiL P w l)) ∧ l ≠ c ∧
  ∀ (tm : Int) (cs : List Int), 0 ≤ tm → tm ≤ T → CellsOk cs → t ⟨fun _ _ => False, fun v H' => (∃ (tm' : Int) (cs' : List Int), H' c = some (.dK (urnKvs l tm')) ∧ H' l = some (.lst (cs'.map V.int)) ∧ 0 ≤ tm' ∧ tm' ≤ T2 ∧ CellsOk cs' ∧
    D.rt v (upd (upd H' c (.ext (phiU P w c l T2))) l (.ext (phiL P w l)))), fun _ _ => False, fun _ _ => False⟩ σ (upd (upd H c (.dK (urnKvs l tm))) l (.lst (cs.map V.int)))
theorem pss_urn {X : Cx} {st : List Stmt} {t : TS} (h : PSs X st t) : PSs X st (tUrn X.prog X.w t) := by
  refine ⟨fun pins s σ H D I hw => ?_⟩
  obtain ⟨c, l, T, T2, h1, h2, hcl, hw⟩ := hw
  obtain ⟨tm, cs, t0, t1, g, I1⟩ := openU I h1 h2 hcl
  refine thn (h.run pins s σ _ _ I1 (hw tm cs t0 t1 g)) fun f s1 q => ?_
  cases f with
  | next => obtain ⟨_, _, _, z⟩ := q; exact z.elim
  | brk => obtain ⟨_, _, _, z⟩ := q; exact z.elim
  | cont => obtain ⟨_, _, _, z⟩ := q; exact z.elim
  | ret v =>
    obtain ⟨x, σ', H', I2, r, tm', cs', e1, e2, t0', t1', g', z⟩ := q
    exact ⟨x, σ', _, closeU I2 e1 e2 t0' t1' g' hcl, r, z⟩
/-- a body that makes an urn closes it ahead of its return -/
def tShutU (P : Program) (w : World) (t : TS) : TS := fun D σ H => t ⟨fun _ _ => False, fun v H' => (∃ (c l : Addr) (tm : Int) (cs : List Int) (T : Nat), v = .ref c ∧ H' c = some (.dK (urnKvs l tm)) ∧ H' l = some (.lst (cs.map V.int)) ∧ 0 ≤ tm ∧ tm ≤ T ∧ CellsOk cs ∧ l ≠ c ∧
    D.rt v (upd (upd H' c (.ext (phiU P w c l T))) l (.ext (phiL P w l)))), fun _ _ => False, fun _ _ => False⟩ σ H
theorem pss_shutU {X : Cx} {st : List Stmt} {t : TS} (h : PSs X st t) : PSs X st (tShutU X.prog X.w t) := by
  refine ⟨fun pins s σ H D I hw => ?_⟩
  refine thn (h.run pins s σ _ _ I hw) fun f s1 q => ?_
  cases f with
  | next => obtain ⟨_, _, _, z⟩ := q; exact z.elim
  | brk => obtain ⟨_, _, _, z⟩ := q; exact z.elim
  | cont => obtain ⟨_, _, _, z⟩ := q; exact z.elim
  | ret v =>
    obtain ⟨x, σ', H', I2, r, c, l, tm, cs, T, rfl, e1, e2, t0, t1, g, hcl, z⟩ := q
    exact ⟨_, σ', _, closeU I2 e1 e2 t0 t1 g hcl, r, z⟩
/-! ### a list made turn by turn, the urn asked at each turn -/
/-- all but lists and what is told by ext stays -/
def Exd (H H' : Hp) : Prop := ∀ a o, noExt o = true → (∀ xs, o ≠ .lst xs) → H a = some o → H' a = some o
theorem Exd.of {H H' : Hp} (e : Exn H H') : Exd H H' := fun a o z _ h => e a o z h
theorem Exd.exl {H H' : Hp} (e : Exl H H') : Exd H H' := fun a o _ n h => e a o n h
theorem Exd.trans {H H1 H2 : Hp} (a : Exd H H1) (b : Exd H1 H2) : Exd H H2 := fun x o z n h => b x o z n (a x o z n h)
section
variable {P : Program} {w : World} {te : TE} {vs : List Nat} {σ : L2.St} {H1 : Hp} {D c l : Addr} {T : Nat} {Qd : Hp → Prop} {j : Nat}
theorem made_rangeD {n : Nat} (m : Nat) (M : Nat → V → Hp → Prop) (C : UrnAt P w H1 c l T) (hD : H1 D = none) (hn : n < 100000) (st : ∀ i v G G', Exd G G' → M i v G → M i v G')
    (hw : ∀ x, wipe ((wipe σ vs).set j (some x)) vs = wipe σ vs)
    (he : ∀ i : Nat, i < n → ∀ H', Ed P w c l (T + i * m) H1 H' → ∀ Q : VK, (∀ v H2, Ed P w c l (T + i * m + m) H' H2 → M i v H2 → Q v H2) → te ((wipe σ vs).set j (some (.int (i : Int)))) H' Q)
    (hd : ∀ (ys : List V) H', ys.length = n → Ed P w c l (T + n * m) H1 H' → H' D = some (.lst ys) → (∀ (k : Nat) (v : V), ys[k]? = some v → M k v H') → Qd H') :
    ∃ W : Nat → Nat → Hp → Prop, (∃ m, W 0 m (upd H1 D (.lst []))) ∧ ∀ i m H, W i m H →
      ((Itr 0 n).stop i H ∧ Qd H) ∨ ((Itr 0 n).go i H ∧ ∃ Nx : Hp → Prop, (∀ H', Nx H' → ∃ m', m' < m ∧ W (i + 1) m' H') ∧ ∀ x H', (Itr 0 n).yld i H x H' → gName j x (wipe σ vs) H' fun σ2 H2 => wipe σ2 vs = wipe σ vs ∧ tYes σ2 H2 fun b H3 =>
        if b = true then te σ2 H3 fun y H4 => ∃ acc, H4 D = some (.lst acc) ∧ acc.length < sizeLine ∧ Nx (upd H4 D (.lst (acc ++ [y]))) else Nx H3) := by
  refine lc_range (lo := 0) (n := n) (fun i H' => ∃ ys : List V, ys.length = i ∧ Ed P w c l (T + i * m) H1 H' ∧ H' D = some (.lst ys) ∧ ∀ (k : Nat) (v : V), ys[k]? = some v → M k v H') ?_ ?_ ?_
  · refine ⟨[], rfl, ?_, upd_same, fun k v z => by simp at z⟩
    rw [Nat.zero_mul]
    exact C.of (Evl.Ex.new hD)
  · rintro i H' hi ⟨ys, hl, e, hy, hm⟩
    have e0 : (0 : Int) + (i : Int) = (i : Int) := Int.zero_add _
    show wipe ((wipe σ vs).set j (some (.int (0 + (i : Int))))) vs = wipe σ vs ∧ tYes ((wipe σ vs).set j (some (.int (0 + (i : Int))))) H' _
    rw [e0]
    refine ⟨hw _, yesT (he i hi H' e _ fun v H2 e2 hv => ?_)⟩
    have g : Exd H2 (upd H2 D (.lst (ys ++ [v]))) := Exd.exl (Exl.grow (e2.sq hy))
    refine ⟨ys, e2.sq hy, by rw [hl]; exact Evl.sz_lt (by omega), ys ++ [v], by simp [hl], ?_, upd_same, fun k u hk => ?_⟩
    · have := Ed.mut (o := .lst (ys ++ [v])) (e.trans e2) hD
      rwa [show T + i * m + m = T + (i + 1) * m by rw [Nat.add_mul, Nat.one_mul, Nat.add_assoc]] at this
    · by_cases hk2 : k < ys.length
      · rw [List.getElem?_append_left hk2] at hk
        exact st k u H' _ ((Exd.of e2.keep).trans g) (hm k u hk)
      · have hz := (List.getElem?_eq_some_iff.mp hk).1
        have ek : k = i := by simp at hz; omega
        subst ek
        rw [List.getElem?_append_right (by omega), hl] at hk
        simp at hk
        subst hk
        exact st k v H2 _ g hv
  · rintro H' ⟨ys, hl, e, hy, hm⟩
    exact hd ys H' hl e hy hm
end
end Lr

namespace Lr
open PySem L2
/-- data: a list of ints -/
theorem dp_ints (K : PySem.W.Frag) (H : Hp) : ∀ ds : List Int, DpAll K H (ds.map V.int) (ds.map PyData.int)
  | [] => .nil
  | x :: r => .cons (.int x) (dp_ints K H r)
theorem lay_ints : ∀ ds : List Int, PyData.canLayAll0 (ds.map PyData.int) = true
  | [] => by simp [PyData.canLayAll0]
  | x :: r => by simp [PyData.canLayAll0, PyData.canLay0, lay_ints r]
theorem depth_ints : ∀ ds : List Int, PyData.depthAll (ds.map PyData.int) ≤ 1
  | [] => by simp [PyData.depthAll]
  | x :: r => by
    have := depth_ints r
    simp [PyData.depthAll, PyData.depth]
    omega
theorem shaped_ints (ds : List Int) : SeqAt.shaped (.list (ds.map PyData.int)) = true := by
  have h1 := depth_ints ds
  have h2 : (PyData.list (ds.map PyData.int)).depth ≤ 64 := by
    simp only [PyData.depth]
    omega
  have h3 : (PyData.list (ds.map PyData.int)).canLay0 = true := by
    simp only [PyData.canLay0]
    exact lay_ints ds
  unfold SeqAt.shaped
  rw [h3, decide_eq_true h2]
  rfl
theorem eqv_nil (ds : List Int) : PyData.eqv (.list (ds.map .int)) (.list []) = ds.isEmpty := by
  cases ds <;> simp [PyData.eqv, PyData.eqvAll]
/-- 0, 1, .. below n -/
def upto (n : Nat) : List Int := (List.range n).map Int.ofNat
theorem upto_len (n : Nat) : (upto n).length = n := by unfold upto; simp
theorem mem_upto {n : Nat} {x : Int} : x ∈ upto n ↔ 0 ≤ x ∧ x < n := by
  unfold upto
  simp only [List.mem_map, List.mem_range]
  constructor
  · rintro ⟨k, hk, rfl⟩
    exact ⟨Int.ofNat_nonneg _, by simpa using hk⟩
  · rintro ⟨h0, h1⟩
    exact ⟨x.toNat, by omega, by simp; omega⟩
theorem rgV_upto {n : Int} : rgV 0 n = (upto n.toNat).map V.int := by
  unfold rgV upto
  simp [List.map_map]
theorem erase_map {α β : Type} (f : α → β) : ∀ (l : List α) (i : Nat), (l.map f).eraseIdx i = (l.eraseIdx i).map f
  | [], _ => by simp
  | _ :: _, 0 => by simp
  | x :: r, i + 1 => by simp [erase_map f r i]
theorem erase_perm : ∀ (l : List Int) (i : Nat) (h : i < l.length), (l[i] :: l.eraseIdx i).Perm l
  | x :: r, 0, _ => by simp
  | x :: r, i + 1, h => by
    have h2 : i < r.length := by simpa using h
    simp only [List.getElem_cons_succ, List.eraseIdx_cons_succ]
    exact (List.Perm.swap x r[i] (r.eraseIdx i)).trans ((erase_perm r i h2).cons x)
theorem pick {rs : List Int} {r : Int} (h0 : 0 ≤ r) (h1 : r < (rs.length : Int)) : ∃ x, (rs.map V.int)[r.toNat]? = some (.int x) ∧ (rs.map V.int).eraseIdx r.toNat = (rs.eraseIdx r.toNat).map V.int ∧ (x :: rs.eraseIdx r.toNat).Perm rs ∧ seqIndex? r (rs.map V.int).length = some r.toNat := by
  have hr : r.toNat < rs.length := by omega
  refine ⟨rs[r.toNat], by rw [List.getElem?_map, List.getElem?_eq_getElem hr]; rfl, erase_map _ _ _, erase_perm rs _ hr, ?_⟩
  have h2 : ¬ r < 0 := by omega
  simp [seqIndex?, h0, h1, h2]
/-- a rule, as lists of numbers and as data -/
def RuleOk (n : Nat) (ps : List (List Int)) : Prop := 1 ≤ n ∧ ps.length = n + 1 ∧ ∀ p ∈ ps, p.Perm (upto n)
def prefD (p : List Int) : PyData := .tuple (p.map .int)
def ruleD (ps : List (List Int)) : PyData := .tuple (ps.map prefD)
/-- a preference of n lanes stands at v -/
def PrefAt (n : Nat) (v : V) (H : Hp) : Prop := ∃ (a : Addr) (ns : List Int), v = .ref a ∧ H a = some (.tup (ns.map V.int)) ∧ ns.Perm (upto n)
theorem PrefAt.exl {n : Nat} {v : V} {H H' : Hp} (e : Exl H H') (h : PrefAt n v H) : PrefAt n v H' := by
  obtain ⟨a, ns, rfl, h1, h2⟩ := h
  exact ⟨a, ns, rfl, e _ _ tup_nolst h1, h2⟩
theorem PrefAt.ex {n : Nat} {v : V} {H H' : Hp} (e : Ex H H') (h : PrefAt n v H) : PrefAt n v H' := h.exl (Exl.of e)
theorem prefs_of {n : Nat} {H : Hp} : ∀ {xs : List V}, (∀ v ∈ xs, PrefAt n v H) → ∃ ps : List (List Int), ps.length = xs.length ∧ (∀ p ∈ ps, p.Perm (upto n)) ∧ DvAll H xs (ps.map prefD)
  | [], _ => ⟨[], rfl, fun _ z => (nomatch z), .nil⟩
  | x :: r, h => by
    obtain ⟨a, ns, rfl, h1, h2⟩ := h x (by simp)
    obtain ⟨ps, p1, p2, p3⟩ := prefs_of (xs := r) fun v hv => h v (by simp [hv])
    refine ⟨ns :: ps, by simp [p1], fun p hp => ?_, .cons (.tup h1 (dv_ints H ns)) p3⟩
    rcases List.mem_cons.mp hp with rfl | hp
    · exact h2
    · exact p2 p hp
/-- a tuple of so many of them is a rule -/
theorem rule_at {n : Nat} {H : Hp} {p : Addr} {xs : List V} (hn : 1 ≤ n) (hp : H p = some (.tup xs)) (hl : xs.length = n + 1) (h : ∀ v ∈ xs, PrefAt n v H) : ∃ ps, RuleOk n ps ∧ Dv H (.ref p) (ruleD ps) := by
  obtain ⟨ps, p1, p2, p3⟩ := prefs_of h
  exact ⟨ps, ⟨hn, p1.trans hl, p2⟩, .tup hp p3⟩
theorem turn_perm {n k : Nat} : ((upto n).drop k ++ (upto n).take k).Perm (upto n) := by
  have h := List.perm_append_comm (l₁ := (upto n).drop k) (l₂ := (upto n).take k)
  rw [List.take_append_drop] at h
  exact h
theorem end_perm {ns : List Int} {n : Nat} {k : Int} (h : ns.Perm (upto n)) (h0 : 0 ≤ k) (h1 : k < n) : (ns.filter (fun x => !decide (x = k)) ++ [k]).Perm (upto n) := by
  refine List.Perm.trans ?_ h
  have hk : k ∈ ns := h.mem_iff.mpr (mem_upto.mpr ⟨h0, h1⟩)
  have nd : ns.Nodup := h.nodup_iff.mpr (by
    unfold upto
    exact List.Pairwise.map _ (fun a b hab z => hab (Int.ofNat.inj z)) List.nodup_range)
  have e : ns.filter (fun x => !decide (x = k)) = ns.erase k := by
    rw [nd.erase_eq_filter]
    congr 1
  rw [e]
  exact (List.perm_append_comm.trans (List.perm_cons_erase hk).symm)
theorem filt_int {ns : List Int} {k : Int} : (ns.map V.int).filter (fun v => !decide (v = .int k)) = (ns.filter (fun x => !decide (x = k))).map V.int := by
  induction ns with
  | nil => rfl
  | cons x r ih =>
    by_cases hx : x = k
    · subst hx
      simp [ih]
    · have : ¬ V.int x = V.int k := fun z => hx (V.int.inj z)
      simp [hx, ih]
theorem rule_inv {H : Hp} {v : V} {ps : List (List Int)} (h : Dv H v (ruleD ps)) : ∃ a xs, v = .ref a ∧ H a = some (.tup xs) ∧ xs.length = ps.length ∧ DvAll H xs (ps.map prefD) := by
  cases h with
  | tup h t => exact ⟨_, _, rfl, h, by rw [t.len, List.length_map], t⟩
/-- numbers of some lanes -/
def InLanes (n : Nat) (ns : List Int) : Prop := ∀ x ∈ ns, 0 ≤ x ∧ x < n
theorem PrefAt.exd {n : Nat} {v : V} {H H' : Hp} (e : Exd H H') (h : PrefAt n v H) : PrefAt n v H' := by
  obtain ⟨a, ns, rfl, h1, h2⟩ := h
  exact ⟨a, ns, rfl, e _ _ rfl tup_nolst h1, h2⟩
theorem PrefAt.ed {P : Program} {w : World} {c l : Addr} {T n : Nat} {v : V} {H H' : Hp} (e : Ed P w c l T H H') (h : PrefAt n v H) : PrefAt n v H' := h.exd (Exd.of e.keep)
end Lr

namespace Lr
open PySem L2 PySem.Spec PyProof.Rows
/-! ### for i, c in enumerate(a text) -/
def ItS (z : Str) : It :=
  ⟨fun i _ => i < z.cps.size, fun i H v G => ∃ T c, v = .ref T ∧ H T = none ∧ z.cps[i]? = some c ∧ G = upd H T (.tup [.int (i : Nat), .str ⟨#[c]⟩]), fun i _ => z.cps.size ≤ i⟩
theorem turn_enumS {P : Program} {w : World} {K : PySem.W.Frag} {elts : List Expr} {kk : Nat} {tpos : Pos} (z : Str) (tk : Tok) (e it : Addr) :
    Turn P w K (.Tuple elts kk tpos) (ItS z) [e, it] e (fun i h => (∃ old, IsEnum h e it ((i : Nat) : Int) old) ∧ h.IsStrIter it (strIterType z) z tk i ∧ e ≠ it ∧ i ≤ z.cps.size) where
  mem := by simp
  obj := by
    rintro i h ⟨⟨old, he⟩, ⟨o, ho, hc, hd⟩, _⟩ b hb
    rcases (show b = e ∨ b = it by simpa using hb) with q | q
    · subst q
      exact ⟨_, he, fun v q => nomatch q⟩
    · subst q
      exact ⟨o, ho, fun v q => by rw [hd] at q; cases q⟩
  keep := by
    rintro i h h2 ⟨⟨old, he⟩, ⟨o, ho, r⟩, hne⟩ k
    exact ⟨⟨old, k e (by simp) _ he⟩, ⟨o, k it (by simp) _ ho, r⟩, hne⟩
  item := by
    intro X hP hw hK hc i pins s σ H E I hf st hg
    subst hP hw hK
    obtain ⟨⟨old, he⟩, hit, hne, hle⟩ := st
    have eLt : e < s.heap.objs.size := Heap.lt_size he
    have iLt : it < s.heap.objs.size := by obtain ⟨_, q, _⟩ := hit; exact Heap.lt_size q
    have D := Draws.text (prog := X.prog) (w := X.w) (A := X.A.in1) (I.ok.hd hc) it z tk
    refine wpAny_pyNext_enum_itemD D he hit hg hne (by simpa using hne) fun x h2 t2 hx out hit2 hT hsz hk => ?_
    obtain ⟨c, u, hcx, rfl⟩ := hx
    refine ⟨_, rfl, wpAny_letOwnedTupleGo_enum (s := { s with heap := h2, toks := t2 + 1 }) out fun h3 he3 sb => ?_⟩
    have hT3 : h3.get? s.heap.objs.size = some { cls := .type "tuple", data := .seq #[.int i t2, .str ⟨#[c]⟩ u] } := (sb.2 _ (Nat.ne_of_gt eLt)).trans hT
    have new : ObjOk X.prog X.w (upd H s.heap.objs.size (.tup [.int (i : Nat), .str ⟨#[c]⟩])) h3 s.heap.objs.size (.tup [.int (i : Nat), .str ⟨#[c]⟩]) :=
      ⟨(by show 2 ≤ sizeLine; decide), [.int i t2, .str ⟨#[c]⟩ u], .cons ⟨_, rfl⟩ (.cons ⟨_, rfl⟩ .nil), ⟨_, hT3, rfl, _, rfl⟩⟩
    have kept : ∀ b ob, b ∉ [e, it] → s.heap.get? b = some ob → h3.get? b = some ob := fun b ob hb q =>
      (sb.2 b (fun y => hb (by simp [y]))).trans (hk b ob (fun y => hb (by simp [y])) (fun y => hb (by simp [y])) q)
    have I3 : Inv X pins σ (upd H s.heap.objs.size (.tup [.int (i : Nat), .str ⟨#[c]⟩])) { s with heap := h3, toks := t2 + 1 } := I.turnedNew (ch := [e, it]) kept hf (Nat.le_refl _) new
    refine ⟨.ref s.heap.objs.size, _, I3, rfl, ⟨_, c, rfl, I.hok.fresh (Nat.le_refl _), hcx, rfl⟩, ⟨⟨.str ⟨#[c]⟩ u, ?_⟩, ?_, hne, hg⟩, fun b hb => ?_⟩
    · have e1 : ((i + 1 : Nat) : Int) = (i : Int) + 1 := by omega
      rw [e1]
      exact he3
    · obtain ⟨o, ho, r⟩ := hit2
      exact ⟨o, (sb.2 it (Ne.symm hne)).trans ho, r⟩
    · have lt : b < s.heap.objs.size := by
        rcases (show b = e ∨ b = it by simpa using hb) with q | q <;> (rw [q]; assumption)
      rw [upd_ne (Nat.ne_of_lt lt)]
      exact (hf b hb).1
  done := by
    intro X hP hw hK hc i pins s σ H E I hf st hg
    subst hP hw hK
    obtain ⟨⟨old, he⟩, hit, hne, hle⟩ := st
    have ei : i = z.cps.size := Nat.le_antisymm hle hg
    subst ei
    have D := Draws.text (prog := X.prog) (w := X.w) (A := X.A.in1) (I.ok.hd hc) it z tk
    obtain ⟨f0, f1, f2, f3, f4, f5⟩ := hf it (by simp)
    exact wpAny_pyNext_enum_endD D he hit fun h2 eb => ⟨rfl, I.turned (t' := s.toks) (fun b o hb q => eb b o hb q) f0 f1 f3 f4 f5⟩
  self := by
    rintro A i s Q E ⟨⟨_, he⟩, _⟩ h
    exact wpAny_pyIter_enum he h
def iEnumS (ta : TA) : TI := fun σ H R => ta σ H fun vs G => ∃ z, vs = [.str z] ∧ R (ItS z) G
theorem pi_enumS {X : Cx} {e : Expr} {ta : TA} {p pos tpos : Pos} {elts : List Expr} {kk : Nat} (hg : Gl X "enumerate") (hm : X.mg "enumerate" = none) (ha : PA X [e] ta)
    (hs : starEach [e] X.env = [(false, eval e X.env)] := by rfl) : PI X (.Tuple elts kk tpos) (.Call (.Name "enumerate" p) [e] [] pos) (iEnumS ta) := by
  refine ⟨fun pins s σ H R I h => ?_⟩
  refine Call_ (ld_blt I hg hm boot_enumerate (PyProof.Rows.callWith_type1 (thn (ha.run pos pins s σ H _ I h) ?_) hs rfl))
  rintro us s1 ⟨vs, G, I1, r1, z, rfl, q⟩
  cases r1 with
  | cons r rr =>
    cases rr
    obtain ⟨tk, rfl⟩ := r
    refine call_enumerate_str fun h2 he hit hsz hk => wpAny_pyIter_enum he ?_
    have I2 : Inv X pins σ G { s1 with heap := h2 } := I1.kept (t' := s1.toks) hk
    refine ⟨s1.heap.objs.size + 1, [s1.heap.objs.size + 1, s1.heap.objs.size], _, _, G, rfl, I2, turn_enumS z tk (s1.heap.objs.size + 1) s1.heap.objs.size, ⟨⟨.none, he⟩, hit, Nat.succ_ne_self _, Nat.zero_le _⟩, fun b hb => ?_, q⟩
    have le : s1.heap.objs.size ≤ b := by
      rcases (show b = s1.heap.objs.size + 1 ∨ b = s1.heap.objs.size by simpa using hb) with y | y
      · rw [y]; exact Nat.le_succ _
      · rw [y]; exact Nat.le_refl _
    exact I1.fpOk le (I1.hok.fresh le)
/-- the loop: an invariant over the turn's number; the pair is new -/
theorem for_enumS {K : PySem.W.Frag} {z : Str} {i j : Nat} {tb : TS} {D : Ends} {σ : L2.St} {H : Hp} (Pv : Nat → L2.St → Hp → Prop) (h0 : Pv 0 σ H)
    (hs : ∀ n c σ2 H2 H3, z.cps[n]? = some c → Pv n σ2 H2 → Ex H2 H3 → tb { D with nx := Pv (n + 1), ct := Pv (n + 1), bk := D.nx } ((σ2.set i (some (.int (n : Int)))).set j (some (.str ⟨#[c]⟩))) H3)
    (hd : ∀ σ2 H2, Pv z.cps.size σ2 H2 → D.nx σ2 H2) :
    ∃ W : Nat → Nat → L2.St → Hp → Prop, (∃ m, W 0 m σ H) ∧ ∀ n m σ2 H2, W n m σ2 H2 →
      ((ItS z).stop n H2 ∧ D.nx σ2 H2) ∨ ((ItS z).go n H2 ∧ ∃ N : L2.St → Hp → Prop, (∀ σ3 H3, N σ3 H3 → ∃ m2, m2 < m ∧ W (n + 1) m2 σ3 H3) ∧
        ∀ x H3, (ItS z).yld n H2 x H3 → gTup K 2 (gCons (gName i) (gCons (gName j) gNil)) x σ2 H3 fun σ4 H4 => tb { D with nx := N, ct := N, bk := D.nx } σ4 H4) := by
  refine ⟨fun n m σ2 H2 => m = z.cps.size - n ∧ n ≤ z.cps.size ∧ Pv n σ2 H2, ⟨_, rfl, Nat.zero_le _, h0⟩, ?_⟩
  rintro n m σ2 H2 ⟨rfl, hn, p⟩
  by_cases lt : n < z.cps.size
  · refine .inr ⟨lt, Pv (n + 1), fun σ3 H3 q => ⟨z.cps.size - (n + 1), by omega, rfl, lt, q⟩, ?_⟩
    rintro x H3 ⟨T, c, rfl, hT, hc, rfl⟩
    exact ⟨T, _, rfl, SqT.of upd_same, rfl, _, _, rfl, _, _, rfl, rfl, hs n c σ2 H2 _ hc p (Evl.Ex.new hT)⟩
  · have e : n = z.cps.size := by omega
    subst e
    exact .inl ⟨Nat.le_refl _, hd σ2 H2 p⟩
end Lr

namespace Lr
open PySem L2
def kindD : PyData → String
  | .none => "NoneType"
  | .bool _ => "bool"
  | .int _ => "int"
  | .str _ => "str"
  | .list _ => "list"
  | .tuple _ => "tuple"
  | .dict _ => "dict"
theorem ty_of {K : PySem.W.Frag} {H : Hp} {v : V} {d : PyData} (h : Dv H v d) : TyX K H v (.type (kindD d)) := by
  cases h with
  | non => exact .base .non
  | bl b => exact .base (.bl b)
  | int i => exact .base (.int i)
  | str x => exact .base (.str x)
  | lst h t => exact .base (.lst h)
  | tup h t => exact .base (.tup h)
  | dic h t => exact .base (.dK h)
/-- what isinstance(d, T) answers -/
def isiD (T : String) (d : PyData) : Bool := kindD d == T || (T == "int" && kindD d == "bool")
theorem kit_all : ∀ a ∈ ["NoneType", "bool", "int", "str", "list", "tuple", "dict"], ∀ T ∈ ["str", "int", "bool", "tuple", "list", "dict"], kitB a T = some (a == T || (T == "int" && a == "bool")) := by
  decide +kernel
theorem kind_in (d : PyData) : kindD d ∈ ["NoneType", "bool", "int", "str", "list", "tuple", "dict"] := by
  cases d <;> simp [kindD]
theorem kit_D {K : PySem.W.Frag} (T : String) (d : PyData) (hT : T ∈ ["str", "int", "bool", "tuple", "list", "dict"] := by decide) : PySem.W.kitOne K (.type (kindD d)) (.type T) = some (isiD T d) := kit_ty (kit_all _ (kind_in d) T hT)
theorem isi_at {K : PySem.W.Frag} {H : Hp} {v : V} {d : PyData} {Q : VK} (T : String) (hT : T ∈ ["str", "int", "bool", "tuple", "list", "dict"]) (h : Dv H v d) (q : Q (.bl (isiD T d)) H) : rIsi K [v, .ty T] H Q :=
  ⟨v, .ty T, _, _, _, rfl, .ty T, ty_of h, kit_ty (kit_all _ (kind_in d) T hT), q⟩
end Lr

namespace Lr
open PySem L2 PySem.Spec PyProof.Rows
/-! ### for i, x in enumerate(a tuple) -/
theorem meets_enum1 {v : Value} {o : Obj} {Hh : Heap → Prop} (B : Begins v o Hh) :
    Meets (Builtin.«enumerate.__new__» ⟨[.type "enumerate", v], []⟩) (fun _ R s => Hh s.heap ∧
      R (.ok (.ret (.ref (s.heap.push o).objs.size)))
        { s with heap := (s.heap.push o).push { cls := .type "enumerate", data := .fields #[.none, .bool false, .ref s.heap.objs.size, rawInt 0, .none, .none] } }) :=
  .of_wp fun prog w A R s hh => by
    obtain ⟨hp, gs, dr, tk, os⟩ := s
    obtain ⟨h1, hR⟩ := hh
    have hsub := sub_enumerate
    have begin1 : ∀ {A2 : Around} {E : Value → Shared → Prop} {Q : Value → Shared → Prop}, Q (.ref hp.objs.size) ⟨hp.push o, gs, dr, tk, os⟩ → wpAny (model prog w) A2 (pyIter v) Q E ⟨hp, gs, dr, tk, os⟩ :=
      fun q => B.iter prog w _ _ ⟨hp, gs, dr, tk, os⟩ _ h1 q
    wp_walk using begin1
    refine wpAny_stack_any fun st => wpAny_pure ?_
    split
    · rename_i cc _ _ _ _ _
      cases (cc == Value.type "enumerate")
      all_goals
        wp_walk using begin1
        exact ⟨_, rfl, hR⟩
    · wp_walk using begin1
      exact ⟨_, rfl, hR⟩
section
variable {prog : Program} {w : World} {A : Around} {E : Value → Shared → Prop} {s : Shared}
theorem call_enum1 {v : Value} {o : Obj} {Hh : Heap → Prop} {Q : Value → Shared → Prop} (B : Begins v o Hh) (h1 : Hh s.heap)
    (k : ∀ h2, IsEnum h2 (s.heap.objs.size + 1) s.heap.objs.size 0 .none → h2.get? s.heap.objs.size = some o → (∀ b ob, s.heap.get? b = some ob → h2.get? b = some ob) → Q (.ref (s.heap.objs.size + 1)) { s with heap := h2 }) :
    wpAny (model prog w) A (call (.type "enumerate") [v]) Q E s := by
  refine callType_new F.called_enumerate (by decide) (F.typeCall_enumerate_1 _) (F.newCall_enumerate_1 _) (fun obj => F.args_object_init_2 obj _) F.entry_enumerate_new (meets_enum1 B) ⟨h1, ?_⟩
  have sz : (s.heap.push o).objs.size = s.heap.objs.size + 1 := Heap.size_push ..
  show _ ∧ _
  rw [sz]
  have en : IsEnum ((s.heap.push o).push { cls := .type "enumerate", data := .fields #[.none, .bool false, .ref s.heap.objs.size, rawInt 0, .none, .none] }) (s.heap.objs.size + 1) s.heap.objs.size 0 .none := by
    have q := Heap.get?_push_size (s.heap.push o) (o := { cls := .type "enumerate", data := .fields #[.none, .bool false, .ref s.heap.objs.size, rawInt 0, .none, .none] }) rfl
    rw [sz] at q
    exact q
  exact ⟨⟨_, en, rfl⟩, k _ en (Heap.get?_push_of_some _ (Heap.get?_push_size _ B.free)) fun b ob x => Heap.get?_push_of_some _ (Heap.get?_push_of_some _ x)⟩
end
def ItT (a : Addr) (xs : List V) : It :=
  ⟨fun i H => H a = some (.tup xs) ∧ i < xs.length, fun i H v G => ∃ T x, v = .ref T ∧ H T = none ∧ xs[i]? = some x ∧ G = upd H T (.tup [.int (i : Nat), x]), fun i H => H a = some (.tup xs) ∧ xs.length ≤ i⟩
theorem turn_enumT {P : Program} {w : World} {K : PySem.W.Frag} {elts : List Expr} {kk : Nat} {tpos : Pos} (a : Addr) (xs : List V) (e it : Addr) :
    Turn P w K (.Tuple elts kk tpos) (ItT a xs) [e, it] e (fun i h => (∃ old, IsEnum h e it ((i : Nat) : Int) old) ∧ h.IsTupleIter it a i ∧ e ≠ it ∧ i ≤ xs.length) where
  mem := by simp
  obj := by
    rintro i h ⟨⟨old, he⟩, ⟨o, ho, hc, hd⟩, _⟩ b hb
    rcases (show b = e ∨ b = it by simpa using hb) with q | q
    · subst q
      exact ⟨_, he, fun v q => nomatch q⟩
    · subst q
      exact ⟨o, ho, fun v q => by rw [hd] at q; cases q⟩
  keep := by
    rintro i h h2 ⟨⟨old, he⟩, ⟨o, ho, r⟩, hne⟩ k
    exact ⟨⟨old, k e (by simp) _ he⟩, ⟨o, k it (by simp) _ ho, r⟩, hne⟩
  item := by
    intro X hP hw hK hc i pins s σ H E I hf st hg
    subst hP hw hK
    obtain ⟨⟨old, he⟩, hit, hne, hle⟩ := st
    obtain ⟨hat, hlt⟩ := hg
    have eLt : e < s.heap.objs.size := Heap.lt_size he
    have iLt : it < s.heap.objs.size := by obtain ⟨_, q, _⟩ := hit; exact Heap.lt_size q
    obtain ⟨_, its, rv, o, ho, hcls, n, hdat⟩ := I.hok a _ hat
    have nai : a ≠ it := by
      intro z
      have q := (hf it (by simp)).1
      rw [← z, hat] at q
      cases q
    have hlen : its.length = xs.length := rv.length.symm
    have D := Draws.tuple (prog := X.prog) (w := X.w) (A := X.A.in1) (I.ok.hd hc) it a nai its.toArray
    have nea : e ≠ a := by
      intro z
      have q := (hf e (by simp)).1
      rw [z, hat] at q
      cases q
    refine wpAny_pyNext_enum_itemD D he ⟨hit, o, ho, hcls, n, hdat⟩ (by simpa [hlen] using hlt) hne (by simp [hne, nea]) fun y h2 t2 hy out hit2 hT hsz hk => ?_
    obtain ⟨x, hx⟩ : ∃ x, xs[i]? = some x := ⟨xs[i], List.getElem?_eq_getElem hlt⟩
    obtain ⟨u, hu, ru⟩ := rv.get hx
    have hyu : y = u := by
      have h3 : its[i]? = some y := by simpa using hy
      rw [hu] at h3
      exact (Option.some.inj h3).symm
    subst hyu
    refine ⟨_, rfl, wpAny_letOwnedTupleGo_enum (s := { s with heap := h2, toks := t2 + 1 }) out fun h3 he3 sb => ?_⟩
    have hT3 : h3.get? s.heap.objs.size = some { cls := .type "tuple", data := .seq #[.int i t2, y] } := (sb.2 _ (Nat.ne_of_gt eLt)).trans hT
    have new : ObjOk X.prog X.w (upd H s.heap.objs.size (.tup [.int (i : Nat), x])) h3 s.heap.objs.size (.tup [.int (i : Nat), x]) :=
      ⟨(by show 2 ≤ sizeLine; decide), [.int i t2, y], .cons ⟨_, rfl⟩ (.cons ru .nil), ⟨_, hT3, rfl, _, rfl⟩⟩
    have kept : ∀ b ob, b ∉ [e, it] → s.heap.get? b = some ob → h3.get? b = some ob := fun b ob hb q =>
      (sb.2 b (fun y => hb (by simp [y]))).trans (hk b ob (fun y => hb (by simp [y])) (fun y => hb (by simp [y])) q)
    have I3 : Inv X pins σ (upd H s.heap.objs.size (.tup [.int (i : Nat), x])) { s with heap := h3, toks := t2 + 1 } := I.turnedNew (ch := [e, it]) kept hf (Nat.le_refl _) new
    refine ⟨.ref s.heap.objs.size, _, I3, rfl, ⟨_, x, rfl, I.hok.fresh (Nat.le_refl _), hx, rfl⟩, ⟨⟨y, ?_⟩, ?_, hne, hlt⟩, fun b hb => ?_⟩
    · have e1 : ((i + 1 : Nat) : Int) = (i : Int) + 1 := by omega
      rw [e1]
      exact he3
    · obtain ⟨⟨o2, ho2, r2⟩, _⟩ := hit2
      exact ⟨o2, (sb.2 it (Ne.symm hne)).trans ho2, r2⟩
    · have lt : b < s.heap.objs.size := by
        rcases (show b = e ∨ b = it by simpa using hb) with q | q <;> (rw [q]; assumption)
      rw [upd_ne (Nat.ne_of_lt lt)]
      exact (hf b hb).1
  done := by
    intro X hP hw hK hc i pins s σ H E I hf st hg
    subst hP hw hK
    obtain ⟨⟨old, he⟩, hit, hne, hle⟩ := st
    obtain ⟨hat, hge⟩ := hg
    have ei : i = xs.length := Nat.le_antisymm hle hge
    obtain ⟨_, its, rv, o, ho, hcls, n, hdat⟩ := I.hok a _ hat
    have nai : a ≠ it := by
      intro z
      have q := (hf it (by simp)).1
      rw [← z, hat] at q
      cases q
    have hlen : its.length = xs.length := rv.length.symm
    have D := Draws.tuple (prog := X.prog) (w := X.w) (A := X.A.in1) (I.ok.hd hc) it a nai its.toArray
    obtain ⟨f0, f1, f2, f3, f4, f5⟩ := hf it (by simp)
    have e2 : its.toArray.size = i := by simp [hlen, ei]
    exact wpAny_pyNext_enum_endD D he (by rw [e2]; exact ⟨hit, o, ho, hcls, n, hdat⟩) fun h2 eb => ⟨rfl, I.turned (t' := s.toks) (fun b o hb q => eb b o hb q) f0 f1 f3 f4 f5⟩
  self := by
    rintro A i s Q E ⟨⟨_, he⟩, _⟩ h
    exact wpAny_pyIter_enum he h
def iEnumT (ta : TA) : TI := fun σ H R => ta σ H fun vs G => ∃ a xs, vs = [.ref a] ∧ G a = some (.tup xs) ∧ R (ItT a xs) G
theorem pi_enumT {X : Cx} {e : Expr} {ta : TA} {p pos tpos : Pos} {elts : List Expr} {kk : Nat} (hg : Gl X "enumerate") (hm : X.mg "enumerate" = none) (ha : PA X [e] ta)
    (hs : starEach [e] X.env = [(false, eval e X.env)] := by rfl) : PI X (.Tuple elts kk tpos) (.Call (.Name "enumerate" p) [e] [] pos) (iEnumT ta) := by
  refine ⟨fun pins s σ H R I h => ?_⟩
  refine Call_ (ld_blt I hg hm boot_enumerate (PyProof.Rows.callWith_type1 (thn (ha.run pos pins s σ H _ I h) ?_) hs rfl))
  rintro us s1 ⟨vs, G, I1, r1, a, xs, rfl, hat, q⟩
  cases r1 with
  | cons r rr =>
    cases rr
    cases r
    obtain ⟨_, its, rv, o, ho, hcls, n, hdat⟩ := I1.hok a _ hat
    refine call_enum1 (begins_tuple a its.toArray) ⟨o, ho, hcls, n, hdat⟩ fun h2 he hit hk => wpAny_pyIter_enum he ?_
    have I2 : Inv X pins σ G { s1 with heap := h2 } := I1.kept (t' := s1.toks) hk
    refine ⟨s1.heap.objs.size + 1, [s1.heap.objs.size + 1, s1.heap.objs.size], _, _, G, rfl, I2, turn_enumT a xs (s1.heap.objs.size + 1) s1.heap.objs.size, ⟨⟨.none, he⟩, ⟨_, hit, rfl, rfl⟩, Nat.succ_ne_self _, Nat.zero_le _⟩, fun b hb => ?_, q⟩
    have le : s1.heap.objs.size ≤ b := by
      rcases (show b = s1.heap.objs.size + 1 ∨ b = s1.heap.objs.size by simpa using hb) with y | y
      · rw [y]; exact Nat.le_succ _
      · rw [y]; exact Nat.le_refl _
    exact I1.fpOk le (I1.hok.fresh le)
/-- the loop: an invariant over the turn's number; the pair is new -/
theorem for_enumT {K : PySem.W.Frag} {a : Addr} {xs : List V} {i j : Nat} {tb : TS} {D : Ends} {σ : L2.St} {H : Hp} (Pv : Nat → L2.St → Hp → Prop) (h0 : Pv 0 σ H) (ht : ∀ n σ2 H2, Pv n σ2 H2 → H2 a = some (.tup xs))
    (hs : ∀ n x σ2 H2 H3, xs[n]? = some x → Pv n σ2 H2 → Ex H2 H3 → tb { D with nx := Pv (n + 1), ct := Pv (n + 1), bk := D.nx } ((σ2.set i (some (.int (n : Int)))).set j (some x)) H3)
    (hd : ∀ σ2 H2, Pv xs.length σ2 H2 → D.nx σ2 H2) :
    ∃ W : Nat → Nat → L2.St → Hp → Prop, (∃ m, W 0 m σ H) ∧ ∀ n m σ2 H2, W n m σ2 H2 →
      ((ItT a xs).stop n H2 ∧ D.nx σ2 H2) ∨ ((ItT a xs).go n H2 ∧ ∃ N : L2.St → Hp → Prop, (∀ σ3 H3, N σ3 H3 → ∃ m2, m2 < m ∧ W (n + 1) m2 σ3 H3) ∧
        ∀ x H3, (ItT a xs).yld n H2 x H3 → gTup K 2 (gCons (gName i) (gCons (gName j) gNil)) x σ2 H3 fun σ4 H4 => tb { D with nx := N, ct := N, bk := D.nx } σ4 H4) := by
  refine ⟨fun n m σ2 H2 => m = xs.length - n ∧ n ≤ xs.length ∧ Pv n σ2 H2, ⟨_, rfl, Nat.zero_le _, h0⟩, ?_⟩
  rintro n m σ2 H2 ⟨rfl, hn, p⟩
  by_cases lt : n < xs.length
  · refine .inr ⟨⟨ht n σ2 H2 p, lt⟩, Pv (n + 1), fun σ3 H3 q => ⟨xs.length - (n + 1), by omega, rfl, lt, q⟩, ?_⟩
    rintro y H3 ⟨T, x, rfl, hT, hx, rfl⟩
    exact ⟨T, _, rfl, SqT.of upd_same, rfl, _, _, rfl, _, _, rfl, rfl, hs n x σ2 H2 _ hx p (Evl.Ex.new hT)⟩
  · have e : n = xs.length := by omega
    subst e
    exact .inl ⟨⟨ht _ σ2 H2 p, Nat.le_refl _⟩, hd σ2 H2 p⟩
/-! ### len(set(a tuple of ints)) -/
theorem perm_in : ∀ {ks ns : List Int}, ks.Nodup → (∀ k ∈ ks, k ∈ ns) → ns.length ≤ ks.length → ks.Perm ns
  | [], ns, _, _, hl => by
    have : ns = [] := List.eq_nil_of_length_eq_zero (by simpa using hl)
    subst this
    exact .nil
  | k :: r, ns, nd, sub, hl => by
    rw [List.nodup_cons] at nd
    have hk : k ∈ ns := sub k (by simp)
    have p := List.perm_cons_erase hk
    have hlen : ns.length = (ns.erase k).length + 1 := by
      have := p.length_eq
      simpa using this
    have ih := perm_in (ks := r) (ns := ns.erase k) nd.2 (fun x hx => by
      have hne : x ≠ k := fun z => nd.1 (z ▸ hx)
      exact (List.mem_erase_of_ne hne).mpr (sub x (by simp [hx]))) (by simp at hl; omega)
    exact (ih.cons k).trans p.symm
theorem card_nodup {ks ns : List Int} (nd : ks.Nodup) (h : ∀ k, k ∈ ns ↔ k ∈ ks) : ks.length = ns.length ↔ ns.Nodup := by
  constructor
  · intro e
    exact (perm_in nd (fun k hk => (h k).mpr hk) (by omega)).nodup_iff.mp nd
  · intro nd2
    have p := perm_in (ks := ks) (ns := ns) nd (fun k hk => (h k).mpr hk)
    by_cases hl : ns.length ≤ ks.length
    · exact (p hl).length_eq
    · exact ((perm_in (ks := ns) (ns := ks) nd2 (fun k hk => (h k).mp hk) (by omega)).length_eq).symm
def tLenSetT (K : PySem.W.Frag) (ta : TE) : TE := fun σ H Q => ta σ H fun x H1 => ∃ (l : Addr) (ns : List Int), x = .ref l ∧ SqT K H1 l (ns.map V.int) ∧ ns.length ≤ 4000 ∧ ∀ m : Nat, (m = ns.length ↔ ns.Nodup) → Q (.int m) H1
theorem pe_lenSetT {X : Cx} {K : PySem.W.Frag} {a : Expr} {ta : TE} {p p2 q pos : Pos} (hK : X.K = K) (hg : Gl X "len") (hm : X.mg "len" = none) (hg2 : Gl X "set") (hm2 : X.mg "set" = none) (ha : PE X a ta) (hc : X.calm = true := by rfl)
    (na : starEach [a] X.env = (false, eval a X.env) :: starEach [] X.env := by rfl) : PE X (.Call (.Name "len" p) [.Call (.Name "set" p2) [a] [] q] [] pos) (tLenSetT K ta) := by
  subst hK
  refine ⟨fun pins s σ H Q I h => Call_ (ld_blt I hg hm bt_len ?_)⟩
  refine PyProof.Rows.callWith_builtin1 (PyProof.Rows.args_cons ?_ rfl) rfl rfl
  refine Call_ (ld_blt I hg2 hm2 bt_set ?_)
  refine PyProof.Rows.callWith_type1 (PyProof.Rows.args_cons (thn (ha.run pins s σ H _ I h) ?_) na) na rfl
  rintro v s1 ⟨x, H1, I1, r1, l, ns, rfl, hq, hl, k⟩
  refine PyProof.Rows.args_nil ?_
  cases r1
  obtain ⟨its, rv, ⟨o, ho, hcls, n, hdat⟩, hz⟩ := I1.tuple hq
  refine call_set_tupI ns (I1.ok.hd hc) ⟨o, ho, hcls, n, hdat⟩ (by simpa using rv.ints) (by unfold scanBound; omega) ?_
  rintro h2 tk c ⟨o2, es, ep, t, ho2, hex, hd2, _, nd, mem, _, hf, hn, _⟩ hcn hk
  refine PyProof.Rows.args_nil ?_
  have I2 : Inv X pins σ H1 { s1 with heap := h2, toks := tk } := I1.kept hk
  have e1 : (es.toList.map keyOf).length = c := by rw [List.length_map, Array.length_toList]; exact hn
  have card : c = ns.length ↔ ns.Nodup := by
    rw [← e1]
    exact card_nodup nd fun k => by rw [← mem k]; simp
  refine call_len_set ho2 hex hd2 hf (by rw [hn]; omega) ⟨.int c, H1, I2.tok _, ⟨_, by rw [hn]⟩, k c card⟩
/-! ### sorted(a tuple of ints) -/
def rSortT (K : PySem.W.Frag) : List V → Hp → VK → Prop := fun vs H Q => ∃ (a : Addr) (ns : List Int), vs = [.ref a] ∧ SqT K H a (ns.map V.int) ∧ ns.length < 64 ∧ ∀ (ys : List Int) (p : Addr), ys.Perm ns → ys.Pairwise (· ≤ ·) → H p = none → Q (.ref p) (upd H p (.lst (ys.map V.int)))
theorem cr_sortT {X : Cx} {K : PySem.W.Frag} (hK : X.K = K) : CallR X (.builtin "sorted") (rSortT K) := by
  subst hK
  intro pins s σ H xs us Q I r h
  obtain ⟨a, ns, rfl, hs, h64, k⟩ := h
  obtain ⟨u, rfl, rx⟩ := vals1 r
  cases rx
  obtain ⟨its, rv, ⟨o, ho, hcls, n, hdat⟩, hz⟩ := I.tuple hs
  have hi : IntsAre its ns := rv.ints
  have hil : its.length = ns.length := hi.length
  refine Calls.call_function_entry PyProof.Rows.kind_sorted PyProof.Rows.plain_sorted PyProof.Rows.entry_sorted (PyProof.Rows.args_sorted1 _) ?_
  unfold Builtin.«sorted»
  refine wpAny_bind (m := checkCount "sorted" 1 1 _) (wpAny_pure ?_)
  have szi : its.toArray.size ≤ sizeLine := by rw [List.size_toArray, hil]; exact Evl.sz_of (by omega)
  refine wpAny_bind (wpAny_collect_seq (A := X.A.in1) a (.inr rfl) ho hcls hdat (fun h2 hk => ?_) szi)
  have I1 : Inv X pins σ H { s with heap := h2 } := I.kept (t' := s.toks) hk
  refine wpAny_bind (wpAny_newList ?_ (by rw [List.toList_toArray, hil]; exact Evl.sz_of (by omega)))
  rw [List.toList_toArray]
  have hoL : (h2.push (seqObj "list" its.toArray 0)).get? h2.objs.size = some (seqObj "list" its.toArray 0) := Heap.get?_push_size _ rfl
  show wpAny _ _ _ _ _ { s with heap := h2.push (seqObj "list" its.toArray 0) }
  refine wpAny_bind (wpAny_holding (wpAny_call_entry PyProof.Rows.slot_list_sort ⟨_, hoL, rfl⟩ PyProof.Rows.entry_list_sort
    (PyProof.Rows.list_sort_tree (s := { s with heap := h2.push (seqObj "list" its.toArray 0) }) hoL hi (by rw [hil]; exact h64) fun out ys g1 g2 g3 => ⟨_, rfl, ?_⟩) (PyProof.Rows.args_list_sort _)))
  obtain ⟨e2, he2⟩ := PyProof.Rows.sortedHeap_at (vs := its) (out := out) hoL
  have hlen : (ys.map V.int).length ≤ sizeLine := by
    rw [List.length_map, g2.length_eq]
    exact Evl.sz_of (by omega)
  refine wpAny_pure ⟨_, rfl, .ref h2.objs.size, upd H h2.objs.size (.lst (ys.map V.int)), I1.laid (t' := s.toks) (fun b u e => ?_) (Nat.le_refl _)
    (show ObjOk X.prog X.w _ _ _ (.lst (ys.map V.int)) from ⟨hlen, out.toList, e2, vals_of_ints g1, by rw [Array.toArray_toList]; exact he2⟩), rfl, k ys _ g2 g3 (I1.hok.fresh (Nat.le_refl _))⟩
  have lt : b < h2.objs.size := Heap.lt_size e
  rw [PyProof.Rows.sortedHeap_old (Nat.ne_of_lt lt) (by rw [size_push']; exact Nat.lt_succ_of_lt lt)]
  exact Heap.get?_push_of_some _ e
/-! ### all(a list of truths) -/
def rAllL (K : PySem.W.Frag) : List V → Hp → VK → Prop := fun vs H Q => ∃ (a : Addr) (bs : List Bool), vs = [V.ref a] ∧ SqL K H a (bs.map V.bl) ∧ Q (.bl (bs.all id)) H
theorem k_all {X : Cx} {K : PySem.W.Frag} (hK : X.K = K) (hc : X.calm = true) : CallR X (.builtin "all") (rAllL K) := by
  subst hK
  exact cr_all hc
/-! ### a tuple backwards: some tuple of its items -/
theorem vals_pick {xs : List V} {its : List Value} (r : Vals xs its) (f : Nat → Nat) : ∀ l : List Nat, Vals (l.filterMap fun k => xs[f k]?) (l.filterMap fun k => its[f k]?)
  | [] => .nil
  | k :: l => by
    have rest := vals_pick r f l
    cases e : xs[f k]? with
    | none =>
      have e2 := r.none_of e
      simp only [List.filterMap_cons, e, e2]
      exact rest
    | some x =>
      obtain ⟨u, e2, ru⟩ := r.get e
      simp only [List.filterMap_cons, e, e2]
      exact .cons ru rest
section
variable {prog : Program} {w : World} {A : Around} {E : Value → Shared → Prop} {s : Shared}
theorem back_applied {sl : Addr} {vl vu vs : Value} {n : Nat} {Q : Int × Int × Nat → Shared → Prop} (hs : s.heap.IsSliceOf sl vl vu vs) (pl : IsPart vl none) (pu : IsPart vu none) (ps : IsPart vs (some (-1)))
    (h : ∀ lo k, k ≤ n → Q (lo, -1, k) s) : wpAny (model prog w) A (Builtin.Slice.sliceApplied (.ref sl) (pure (n : Int))) Q E s := by
  obtain ⟨os, hos, hcs, hds⟩ := id hs
  unfold Builtin.Slice.sliceApplied Builtin.Slice.sliceFields
  refine wpAny_bind (wpAny_bind (wpAny_field hos hds (x := vl) rfl (wpAny_bind (wpAny_field hos hds (x := vu) rfl (wpAny_bind (wpAny_field hos hds (x := vs) rfl (wpAny_pure ?_)))))))
  refine wpAny_bind (HT.slicePart_ ps ?_)
  show wpAny _ _ (if ((-1 : Int) == 0) = true then _ else _) _ _ s
  rw [if_neg (by decide)]
  refine wpAny_bind (HT.slicePart_ pl (wpAny_bind (HT.slicePart_ pu (wpAny_bind (wpAny_pure ?_)))))
  show wpAny _ _ (match Builtin.Slice.sliceAdjust none none (-1) (n : Int) with | (lo, hi) => pure (lo, (-1 : Int), Builtin.Slice.slicePlaces lo hi (-1))) _ _ s
  have e1 : Builtin.Slice.sliceAdjust none none (-1) (n : Int) = ((n : Int) - 1, -1) := rfl
  rw [e1]
  refine wpAny_pure (h _ _ ?_)
  unfold Builtin.Slice.slicePlaces
  rw [if_neg (by decide)]
  split
  · have e2 : ((n : Int) - 1 - -1 - 1) / (- -1) = (n : Int) - 1 := by
      rw [show (- -1 : Int) = 1 by decide, Int.ediv_one]
      omega
    rw [e2]
    omega
  · simp
theorem getItem_back {t sl : Addr} {items : Array Value} {vl vu vs : Value} {Q : Value → Shared → Prop} (ht : IsTup s.heap t items) (hs : s.heap.IsSliceOf sl vl vu vs) (pl : IsPart vl none) (pu : IsPart vu none) (ps : IsPart vs (some (-1))) (hsz : items.size ≤ sizeLine)
    (h : ∀ (lo : Int) (k : Nat), k ≤ items.size → Q (.ref s.heap.objs.size) { s with heap := s.heap.push { cls := .type "tuple", data := .seq ((List.range k).filterMap fun (j : Nat) => items[(lo + (j : Int) * -1).toNat]?).toArray } }) :
    wpAny (model prog w) A (getItem (.ref t) (.ref sl)) Q E s := by
  obtain ⟨os, hos, hcs, hds⟩ := id hs
  have hTs : s.TypeIs (.ref sl) "slice" := ⟨os, hos, hcs⟩
  unfold getItem
  try with_reducible refine wpAny_holding ?_
  first | refine wpAny_bind (wpAny_pure ?_) | skip
  refine wpAny_bind (wpAny_sequenceKey ht.typeIs (by decide) ?_)
  refine wpAny_bind (wpAny_callSpecial?_slot (name := Str.ofString "__getitem__") ht.typeIs PyProof.Rows.slot_tuple_getitem
    (wpAny_call_entry PyProof.Rows.slot_tuple_getitem ht.typeIs entry_tuple_getitem ?_ (args_tuple_getitem _ _)))
  show wpAny _ _ (Builtin.Tuple.tupleItemsOf (.ref t) >>= _) _ _ s
  refine wpAny_bind (tupleItemsOf_ ht (wpAny_bind (wpAny_typeOf hTs ?_)))
  rw [if_pos (by decide)]
  refine wpAny_bind (back_applied hs pl pu ps fun lo k hk => ?_)
  have ok : sizeOk (.seq ((List.range k).filterMap fun (j : Nat) => items[(lo + (j : Int) * -1).toNat]?).toArray) := by
    show ((List.range k).filterMap fun (j : Nat) => items[(lo + (j : Int) * -1).toNat]?).toArray.size ≤ sizeLine
    rw [List.size_toArray]
    have := List.length_filterMap_le (fun (j : Nat) => items[(lo + (j : Int) * -1).toNat]?) (List.range k)
    rw [List.length_range] at this
    omega
  have no : ¬ ((lo == 0 && (-1 : Int) == 1 && k == items.size) = true) := by simp
  show wpAny _ _ (if (lo == 0 && (-1 : Int) == 1 && k == items.size) = true then _ else _) _ _ s
  rw [if_neg no]
  have q := h lo k hk
  first
    | exact wpAny_bind (m := Builtin.Tuple.tupleExact _) (wpAny_newObj_type (wpAny_pure ⟨_, rfl, wpAny_pure q⟩) ok)
    | exact wpAny_bind (m := Builtin.Tuple.tupleExact _) (wpAny_newObj_type (wpAny_bind (wpAny_pure (wpAny_pure ⟨_, rfl, wpAny_pure q⟩))) ok)
    | exact wpAny_bind (wpAny_bind (m := Builtin.Tuple.tupleExact _) (wpAny_newObj_type (wpAny_pure (wpAny_pure ⟨_, rfl, wpAny_pure q⟩)) ok))
    | exact wpAny_bind (wpAny_bind (m := Builtin.Tuple.tupleExact _) (wpAny_newObj_type (wpAny_pure ⟨_, rfl, wpAny_pure q⟩) ok))
end
def tRevT (te : TE) : TE := fun σ H Q => te σ H fun x H1 => ∃ (a : Addr) (xs : List V), x = .ref a ∧ H1 a = some (.tup xs) ∧ ∀ (f : Nat → Nat) (k : Nat) p, k ≤ xs.length → H1 p = none → Q (.ref p) (upd H1 p (.tup ((List.range k).filterMap fun j => xs[f j]?)))
theorem pe_revT {X : Cx} {e : Expr} {te : TE} {k : Nat} {p1 p2 p3 pos : Pos} (he : PE X e te) : PE X (.Subscript e (.Slice none none (some (.UnaryOp .USub (.Constant (.int 1) k p1) p2)) p3) pos) (tRevT te) := by
  refine ⟨fun pins s σ H Q I h => Subscript_ (thn (he.run pins s σ H _ I h) ?_)⟩
  rintro v s1 ⟨x, H1, I1, r1, a, xs, rfl, hx, q⟩
  cases r1
  have step : PO X (some (.UnaryOp .USub (.Constant (.int 1) k p1) p2)) (tPart (tUn (rU fun i => .int (-i)) (tC (.int 1)))) := po_some (pe_un un_neg pe_int)
  refine wpAny_Slice (thn (po_none.run pins s1 σ H1 (fun o G => o = none ∧ G = H1) I1 ⟨rfl, rfl⟩) ?_)
  rintro vl s2 ⟨l, H2, I2, pl, rfl, rfl⟩
  refine thn (po_none.run pins s2 σ H2 (fun o G => o = none ∧ G = H2) I2 ⟨rfl, rfl⟩) ?_
  rintro vu s3 ⟨u, H3, I3, pu, rfl, rfl⟩
  refine thn (step.run pins s3 σ H3 (fun o G => o = some (-1) ∧ G = H3) I3 ⟨1, rfl, -1, rfl, rfl, rfl⟩) ?_
  rintro vs s4 ⟨o, H4, I4, ps, rfl, rfl⟩
  have I5 : Inv X pins σ H4 { s4 with heap := s4.heap.push { cls := .type "slice", data := .fields #[vl, vu, vs] } } := I4.kept (t' := s4.toks) fun b ob q => Heap.get?_push_of_some _ q
  obtain ⟨its, rv, ht, hz⟩ := I5.tuple (SqT.of hx)
  have hlen : its.length = xs.length := rv.length.symm
  refine tail_any (ops := [.ref a, .ref s4.heap.objs.size]) ht.typeIs (PyProof.Rows.slot_tuple_getitem.lookup) ?_ (by with_unfolding_all rfl)
  refine getItem_back ht (Heap.IsSliceOf.new _ vl vu vs) pl pu ps (by rw [List.size_toArray, hlen]; exact hz) fun lo n hn => ?_
  have hn2 : n ≤ xs.length := by rw [List.size_toArray, hlen] at hn; exact hn
  have same : ((List.range n).filterMap fun (j : Nat) => its.toArray[(lo + (j : Int) * -1).toNat]?) = (List.range n).filterMap fun (j : Nat) => its[(lo + (j : Int) * -1).toNat]? := by
    congr 1
    funext j
    simp
  rw [same]
  have rv2 := vals_pick rv (fun j => (lo + (j : Int) * -1).toNat) (List.range n)
  have l2 : ((List.range n).filterMap fun (j : Nat) => xs[(lo + (j : Int) * -1).toNat]?).length ≤ sizeLine := by
    have := List.length_filterMap_le (fun (j : Nat) => xs[(lo + (j : Int) * -1).toNat]?) (List.range n)
    rw [List.length_range] at this
    omega
  exact ⟨.ref _, _, I5.laid (t' := s4.toks) (o := .tup ((List.range n).filterMap fun (j : Nat) => xs[(lo + (j : Int) * -1).toNat]?)) (fun b ob q => Heap.get?_push_of_some _ q) (Nat.le_refl _) ⟨l2, _, rv2, IsTup.new _ _⟩, rfl, q _ n _ hn2 (I5.hok.fresh (Nat.le_refl _))⟩
end Lr

namespace Lr
open PySem L2 PySem.SeqAt
/-! ### compared with [] or (), whatever the items are -/
def rNeNil (K : PySem.W.Frag) : R2 := fun x y H Q => ∃ a b xs, x = .ref a ∧ y = .ref b ∧ SqL K H a xs ∧ SqL K H b [] ∧ Q (.bl (decide (xs ≠ []))) H
def rEqNilT (K : PySem.W.Frag) : R2 := fun x y H Q => ∃ a b xs, x = .ref a ∧ y = .ref b ∧ SqT K H a xs ∧ SqT K H b [] ∧ Q (.bl (decide (xs = []))) H
theorem ko_neNil {X : Cx} {K : PySem.W.Frag} (h : X.K = K) (hu : X.A.units + 64 < cLine) : OpR X (compareOp .NotEq) (rNeNil K) := by
  subst h
  intro pins s σ H x y v u Q I rx ry h
  obtain ⟨a, b, xs, rfl, rfl, h1, h2, q⟩ := h
  cases rx
  cases ry
  obtain ⟨its, rv, ⟨o, n, ho, hc, _, hd⟩, _⟩ := I.list h1
  obtain ⟨its2, rv2, ⟨o2, n2, ho2, hc2, _, hd2⟩, _⟩ := I.list h2
  cases rv2
  have i1 : s.heap.IsList a its.toArray := ⟨o, ho, hc, n, hd⟩
  have i2 : s.heap.IsList b #[] := ⟨o2, ho2, hc2, n2, hd2⟩
  cases rv with
  | nil =>
    exact RcNeAt.lists (e := fun _ => true) i1 i2 rfl (by omega) (fun j h1 _ => absurd h1 (Nat.not_lt_zero j)) X.prog X.w _ _ ⟨.bl _, H, I, rfl, q⟩
  | cons r rv =>
    exact RcNeAt.lists_lengths i1 i2 (by simp) (by omega) X.prog X.w _ _ ⟨.bl _, H, I, rfl, q⟩
theorem ko_eqNilT {X : Cx} {K : PySem.W.Frag} (h : X.K = K) (hu : X.A.units + 64 < cLine) : OpR X (compareOp .Eq) (rEqNilT K) := by
  subst h
  intro pins s σ H x y v u Q I rx ry h
  obtain ⟨a, b, xs, rfl, rfl, h1, h2, q⟩ := h
  cases rx
  cases ry
  obtain ⟨its, rv, ⟨o, ho, hc, n, hd⟩, _⟩ := I.tuple h1
  obtain ⟨its2, rv2, ⟨o2, ho2, hc2, n2, hd2⟩, _⟩ := I.tuple h2
  cases rv2
  have i1 : s.heap.IsTuple a its.toArray := ⟨o, ho, hc, n, hd⟩
  have i2 : s.heap.IsTuple b #[] := ⟨o2, ho2, hc2, n2, hd2⟩
  have G := RcAt.tuples (A := X.A) (e := fun _ => true) i1 i2 (by omega) (fun j _ h2 => absurd h2 (Nat.not_lt_zero j))
  cases rv with
  | nil => exact G X.prog X.w _ _ ⟨.bl _, H, I, rfl, q⟩
  | cons r rv => exact G X.prog X.w _ _ ⟨.bl _, H, I, by simp; rfl, q⟩
end Lr

namespace Lr
open PySem L2 PySem.Spec PyProof.Rows
/-! ### repr of any data: where the table of modules stands in the base, nothing that is told of stands there -/
def HasSys (base : Heap) : Prop := ∃ o, base.get? sysModules = some o
section
variable {X : Cx} {pins : List (Addr × Obj)} {σ : L2.St} {H : Hp} {s : Shared}
theorem sys_ne (hs : HasSys X.base) (I : Inv X pins σ H s) {a : Addr} {o : HO} (h : H a = some o) : sysModules ≠ a := by
  rintro rfl
  obtain ⟨o', e⟩ := hs
  have z := (I.bs _ _ e).2
  rw [h] at z
  cases z
mutual
theorem Dv.readsS (hs : HasSys X.base) (I : Inv X pins σ H s) : ∀ {v : V} {d : PyData} {u : Value}, Dv H v d → RelV v u → ∃ as, Reads s.heap u d as ∧ sysModules ∉ as
  | _, _, _, .non, r => by cases r; exact ⟨[], .none, List.not_mem_nil⟩
  | _, _, _, .bl b, r => by cases r; exact ⟨[], .bool b, List.not_mem_nil⟩
  | _, _, _, .int i, r => by obtain ⟨t, rfl⟩ := r; exact ⟨[], .int i t, List.not_mem_nil⟩
  | _, _, _, .str x, r => by obtain ⟨t, rfl⟩ := r; exact ⟨[], .str x t, List.not_mem_nil⟩
  | _, _, _, .lst h t, r => by
    cases r
    have ne := sys_ne hs I h
    obtain ⟨_, its, n, rv, e⟩ := I.hok _ _ h
    obtain ⟨as, q, z⟩ := DvAll.readsS hs I t rv
    refine ⟨_ :: as, .list e rfl rfl (by simpa using q), fun hm => ?_⟩
    rcases List.mem_cons.mp hm with e | hm
    · exact ne e
    · exact z hm
  | _, _, _, .tup h t, r => by
    cases r
    obtain ⟨_, its, rv, o, e, hc, n, hd⟩ := I.hok _ _ h
    obtain ⟨as, q, z⟩ := DvAll.readsS hs I t rv
    exact ⟨as, .tuple e hc hd (by simpa using q), z⟩
  | _, _, _, .dic h t, r => by
    cases r
    have ne := sys_ne hs I h
    obtain ⟨_, ns, vs, kv, o, es, ep, e, hx, hd, _, hp, _⟩ := I.hok _ _ h
    obtain ⟨bs, q, z⟩ := DvKv.readsS hs I t kv hp
    refine ⟨_ :: [] ++ bs, .dict e hx.1 hd (keys_read hp kv t) q, fun hm => ?_⟩
    rcases List.mem_cons.mp (by simpa using hm) with e | hm
    · exact ne e
    · exact z hm
theorem DvAll.readsS (hs : HasSys X.base) (I : Inv X pins σ H s) : ∀ {vs : List V} {ds : List PyData} {us : List Value}, DvAll H vs ds → Vals vs us → ∃ as, ReadsAll s.heap us ds as ∧ sysModules ∉ as
  | _, _, _, .nil, .nil => ⟨[], .nil, List.not_mem_nil⟩
  | _, _, _, .cons a b, .cons r q => by
    obtain ⟨as, h1, z1⟩ := Dv.readsS hs I a r
    obtain ⟨bs, h2, z2⟩ := DvAll.readsS hs I b q
    refine ⟨as ++ bs, .cons h1 h2, fun hm => ?_⟩
    rcases List.mem_append.mp hm with m | m
    · exact z1 m
    · exact z2 m
theorem DvKv.readsS (hs : HasSys X.base) (I : Inv X pins σ H s) : ∀ {kvs : List (Key × V)} {ds : List (PyData × PyData)} {vs : List (Key × Value)} {es : List DictEntry}, DvKv H kvs ds → KV kvs vs → Pairs (mixKind X.prog X.w) es vs →
    ∃ bs, ReadsAll s.heap (es.map (·.val)) (ds.map (·.2)) bs ∧ sysModules ∉ bs
  | _, _, _, _, .nil, .nil, .nil => ⟨[], .nil, List.not_mem_nil⟩
  | _, _, _, _, .cons a b, .cons r q, .cons h1 h2 t => by
    obtain ⟨as, g1, z1⟩ := Dv.readsS hs I a r.2
    obtain ⟨bs, g2, z2⟩ := DvKv.readsS hs I b q t
    refine ⟨as ++ bs, .cons (by show Reads s.heap (DictEntry.val _) _ as; rw [h2]; exact g1) g2, fun hm => ?_⟩
    rcases List.mem_append.mp hm with m | m
    · exact z1 m
    · exact z2 m
end
end
def rReprS : List V → Hp → VK → Prop := fun xs H Q => ∃ v d, xs = [v] ∧ Dv H v d ∧ Fit d ∧ Q (.str d.shown) H
theorem call_reprS {X : Cx} (hg : X.A.guards = some []) (hu : X.A.units + 64 < cLine) (hs : HasSys X.base) : CallR X (.builtin "repr") rReprS := by
  intro pins s σ H xs us Q I r h
  obtain ⟨v, d, rfl, hd, f, q⟩ := h
  obtain ⟨u, rfl, rv⟩ := vals1 r
  have hdep := f.dep
  obtain ⟨as, rd, hs⟩ := Dv.readsS hs I hd rv
  have fin : ∀ (h' : Heap) (tk : Nat) (t : Tok), (∀ b o, s.heap.get? b = some o → h'.get? b = some o) → EP X pins σ Q (.str d.shown t) { s with heap := h', toks := tk } :=
    fun h' tk t k => ⟨.str d.shown, H, I.kept k, ⟨_, rfl⟩, q⟩
  cases hd with
  | non =>
    cases rv
    exact PySem.P.repr_of_none (fin s.heap _ _ fun _ _ e => e)
  | bl b =>
    cases rv
    exact PySem.P.repr_of_bool (fin s.heap _ _ fun _ _ e => e)
  | int i =>
    obtain ⟨t, rfl⟩ := rv
    exact PySem.P.repr_of_int (by simpa [PyData.showable] using f.sh) (fin s.heap _ _ fun _ _ e => e)
  | str x =>
    obtain ⟨t, rfl⟩ := rv
    exact PySem.P.repr_of_str (fin s.heap _ _ fun _ _ e => e) (by simpa [PyData.shown] using f.len)
  | lst h t =>
    cases rv
    exact repr_of_reads' rd f.sh (fun _ => hs) hg (by omega) (fun _ _ e => e) (fun h' u tk k => fin h' tk u k) f.len
  | tup h t =>
    cases rv
    exact repr_of_reads' rd f.sh (fun _ => hs) hg (by omega) (fun _ _ e => e) (fun h' u tk k => fin h' tk u k) f.len
  | dic h t =>
    cases rv
    exact repr_of_reads' rd f.sh (fun _ => hs) hg (by omega) (fun _ _ e => e) (fun h' u tk k => fin h' tk u k) f.len
/-! ### the law's end, with the table of modules -/
theorem lawS {P : Program} {w : World} {K : PySem.W.Frag} {mg mb mm : Str → Option Value} {k : Nat} {fa a : Addr} {fd : FuncData} {x : Str} {sp : Sp}
    {t0 : Shared} {us : List Value} {ns : List Int} (inK : K.In t0.heap) (gl : t0.heap.Ns mainGlobals mg) (bl : t0.heap.Ns builtinsNs mb) (sy : t0.heap.Ns sysModules mm)
    (blt : ∀ y : Str, y ≠ "__name__" → mb y = bootBuiltins y) (lim : t0.heap.NoLimit) (nog : t0.gens = #[])
    (at' : t0.heap.get? a = some { cls := .type "list", data := .seq us.toArray }) (hints : IntsAre us ns) (short : ns.length ≤ sizeLine)
    (room : Room k callerA) (F : ∀ base : Heap, K.In base → base.Ns mainGlobals mg → HasSys base → FnG P w K mg base k fa fd [x] sp)
    (bind : ∀ (s : Shared) (u : Value), BindsTo s fd ⟨[u], []⟩ [(x, u)])
    (want : ∀ H : Hp, SqL K H a (ns.map V.int) → sp [.ref a] H (fun v _ => v = .bl true) fun _ _ _ => False) :
    codeAny (model P w) callerA (.call (.ref fa) ⟨[.ref a], []⟩)
      (fun r s2 => r = .ok (.ret (.bool true)) ∧ OldK t0.heap s2.heap ∧ s2.os = t0.os ∧ AllBare s2.gens) t0 := by
  have vals : Vals (ns.map V.int) us := vals_ints hints
  have same := hints.length
  have main : ∀ H : Hp, (∀ b u, H b = some u → b = a ∧ K.lookup a = none ∧ ∃ o ys, u = .frz o (.lst ys)) → SqL K H a (ns.map V.int) → HOk P w H t0.heap →
      codeAny (model P w) callerA (.call (.ref fa) ⟨[.ref a], []⟩)
        (fun r s2 => r = .ok (.ret (.bool true)) ∧ OldK t0.heap s2.heap ∧ s2.os = t0.os ∧ AllBare s2.gens) t0 := by
    intro H only sq ok
    have noDict : ∀ {b : Addr} {o : Obj} {es : Array DictEntry} {ep : Nat}, t0.heap.get? b = some o → o.data = .dict es ep → H b = none := by
      intro b o es ep e dd
      cases q : H b with
      | none => rfl
      | some u =>
        obtain ⟨rfl, _⟩ := only b u q
        rw [at'] at e
        cases e
        cases dd
    have ns' : ∀ {b : Addr} {m : Str → Option Value}, t0.heap.Ns b m → (hidT t0.heap H).Ns b m := by
      rintro b m ⟨o, es, ep, e, dd, r⟩
      exact ⟨o, es, ep, hidT_get e (noDict e dd), dd, r⟩
    have inB : K.In (hidT t0.heap H) := by
      intro b o e
      refine hidT_get (inK b o e) ?_
      cases q : H b with
      | none => rfl
      | some u =>
        obtain ⟨rfl, z, _⟩ := only b u q
        rw [z] at e
        cases e
    obtain ⟨mc, l1, l2⟩ := lim
    have md : Mod K mg (hidT t0.heap H) := ⟨inB, ns' gl, ⟨mb, ns' bl, blt⟩, mc, ns' l1, l2⟩
    have hsy : HasSys (hidT t0.heap H) := by
      obtain ⟨o, _, _, e, _⟩ := ns' sy
      exact ⟨o, e⟩
    have env : Env0 P w K mg (hidT t0.heap H) callerA [] t0 H :=
      ⟨rfl, md, fun b o e => of_hidT e, Nat.le_of_eq (hidT_size _ _), trivial, fun b hb => absurd hb List.not_mem_nil, ok, AllBare.of_eq nog⟩
    refine codeAny_mono ((F _ inB (ns' gl) hsy).go callerA [] t0 H ⟨[.ref a], []⟩ [.ref a] [.ref a] _ _ room rfl env (bind t0 (.ref a)) (.cons rfl .nil) (want H sq)) ?_
    intro r s2 out
    cases r with
    | error u => exact False.elim out
    | ok fl =>
      cases fl with
      | next => exact False.elim out
      | brk => exact False.elim out
      | cont => exact False.elim out
      | ret u =>
        obtain ⟨v, H2, os, bare, un, ok2, rv, q⟩ := out
        obtain rfl : v = .bl true := q
        obtain rfl : u = Value.bool true := rv
        refine ⟨rfl, OldK.of_keep ?_, os, bare⟩
        intro b o e
        cases z : H b with
        | none => exact un.keep b o e z (by intro y; cases y) (by simp)
        | some u =>
          obtain ⟨_, _, ob, ys, rfl⟩ := only b u z
          obtain ⟨e1, _⟩ := ok b _ z
          obtain ⟨e2, _⟩ := ok2 b _ (un.frzs b ob _ z)
          rw [e] at e1
          cases e1
          exact e2
  cases lk : K.lookup a with
  | some o =>
    have e := inK a o lk
    rw [at'] at e
    cases e
    refine main (fun _ => none) (fun b u z => by cases z) (.inr ⟨_, us.toArray, _, lk, rfl, rfl, rfl, ?_, by simpa using vals⟩) (fun b u z => by cases z)
    rw [List.size_toArray, same]
    exact short
  | none =>
    refine main (fun b => if b = a then some (.frz { cls := .type "list", data := .seq us.toArray } (.lst (ns.map V.int))) else none) ?_ (.inl (.inr ⟨_, if_pos rfl⟩)) ?_
    · intro b u z
      by_cases hb : b = a
      · have z2 := (if_pos hb).symm.trans z
        cases z2
        exact ⟨hb, lk, _, _, rfl⟩
      · have z2 := (if_neg hb).symm.trans z
        cases z2
    · intro b u z
      by_cases hb : b = a
      · have z2 := (if_pos hb).symm.trans z
        subst hb
        cases z2
        exact ⟨at', by rw [List.length_map]; exact short, us, _, vals, at'⟩
      · have z2 := (if_neg hb).symm.trans z
        cases z2
theorem walkS {l : PySem.W.OpenLaw} {n k : Nat} {q : Program} {loose : List Str} {XP : (Str → Option Value) → Heap → Prop} {YP : World → Heap → Prop} {d : DefRec}
    {K : Params → PySem.W.Frag} {sp : World → Sp} {x : Str} (hn : l.most = some n) (hn2 : n ≤ sizeLine) (hdf : d.params.defaults = []) (hr : Room k callerA) (hi : importsNone q = true)
    (hY : ∀ (w : World) (h : Heap), YP w h → (K w.params).In h)
    (F : ∀ (w : World) (mg : Str → Option Value) (fa : Addr) (h : Heap), (K w.params).In h → h.Ns mainGlobals mg → mg d.name = some (.ref fa) →
      ∃ fd : FuncData, (∀ (s : Shared) (u : Value), BindsTo s fd ⟨[u], []⟩ [(x, u)]) ∧
        ∀ base : Heap, (K w.params).In base → base.Ns mainGlobals mg → HasSys base → FnG l.prog w (K w.params) mg base k fa fd [x] (sp w))
    (want : ∀ (w : World) (H : Hp) (a : Addr) (ns : List Int), ns.length ≤ n → SqL (K w.params) H a (ns.map V.int) → sp w [.ref a] H (fun v _ => v = .bl true) fun _ _ _ => False) :
    PySem.W.WalkO q loose XP YP l.row.toRowW d [] (fun f vs => PySem.call f vs) := by
  refine Att.attach_callB hn hdf ?_
  intro w s0 s1 mg mb fa o pm cd doc a vs ns G Y ho hd hcd hmg hobj hints hlen _ hg
  obtain ⟨fd, hb, hF⟩ := F w mg fa _ (hY w _ Y) G.T.g hmg
  obtain ⟨mm, sy, _⟩ := (G.T.seer hi).mods
  exact lawS (hY w _ Y) G.T.g G.T.b sy G.T.builtins G.T.nolimit hg hobj hints (Nat.le_trans hlen hn2) hr hF hb fun H hS => want w H a ns hlen hS
end Lr

namespace Lr
open PySem L2
/-! ### how long a text shows it, how deep it is -/
structure Sh (m k : Nat) (d : PyData) : Prop where
  sh : d.showable = true
  len : d.shown.length ≤ m
  dep : d.depth ≤ k
theorem Sh.mono {m k m' k' : Nat} {d : PyData} (h : Sh m k d) (hm : m ≤ m') (hk : k ≤ k') : Sh m' k' d := ⟨h.sh, Nat.le_trans h.len hm, Nat.le_trans h.dep hk⟩
theorem Sh.fit {m k : Nat} {d : PyData} (h : Sh m k d) (hm : m ≤ 1000000) (hk : k ≤ 60) : Fit d := ⟨h.sh, Nat.le_trans h.len (Nat.le_trans hm (by decide)), Nat.le_trans h.dep hk⟩
theorem sh_all {m k : Nat} : ∀ {es : List PyData}, (∀ e ∈ es, Sh m k e) → PyData.showableAll es = true ∧ ((PyData.shownAll es).map (·.length)).sum ≤ m * es.length ∧ PyData.depthAll es ≤ k
  | [], _ => by simp [PyData.showableAll, PyData.shownAll, PyData.depthAll]
  | x :: r, h => by
    obtain ⟨a, b, c⟩ := sh_all (es := r) fun y hy => h y (by simp [hy])
    have hx := h x (by simp)
    have h1 := hx.len
    have h2 := hx.dep
    refine ⟨by simp [PyData.showableAll, hx.sh, a], ?_, by simp only [PyData.depthAll]; omega⟩
    simp only [List.map_cons, PyData.shownAll, List.sum_cons, List.length_cons, Nat.mul_add, Nat.mul_one]
    omega
theorem sh_tup {m k c : Nat} {es : List PyData} (h : ∀ e ∈ es, Sh m k e) (hc : es.length ≤ c) : Sh (c * (m + 2) + 3) (k + 1) (.tuple es) := by
  obtain ⟨a, b, e⟩ := sh_all h
  refine ⟨by simpa [PyData.showable] using a, ?_, by simp only [PyData.depth]; omega⟩
  simp only [PyData.shown]
  have t := tupleText_len_le (PyData.shownAll es)
  rw [PyData.shownAll_length] at t
  have q : m * es.length + 2 * es.length ≤ c * (m + 2) := by
    rw [← Nat.add_mul, Nat.mul_comm, Nat.add_comm m 2, Nat.add_comm 2 m]
    exact Nat.mul_le_mul_right _ hc
  omega
theorem sh_lst {m k c : Nat} {es : List PyData} (h : ∀ e ∈ es, Sh m k e) (hc : es.length ≤ c) : Sh (c * (m + 2) + 3) (k + 1) (.list es) := by
  obtain ⟨a, b, e⟩ := sh_all h
  refine ⟨by simpa [PyData.showable] using a, ?_, by simp only [PyData.depth]; omega⟩
  simp only [PyData.shown]
  have t := listText_len_le (PyData.shownAll es)
  rw [PyData.shownAll_length] at t
  have q : m * es.length + 2 * es.length ≤ c * (m + 2) := by
    rw [← Nat.add_mul, Nat.mul_comm, Nat.add_comm m 2, Nat.add_comm 2 m]
    exact Nat.mul_le_mul_right _ hc
  omega
theorem small_show {i : Int} (h : i.natAbs < 10 ^ 12) : (PyData.int i).showable = true := by
  simp only [PyData.showable, decide_eq_true_eq]
  have h1 : i.natAbs < 2 ^ 40 := Nat.lt_trans h (by decide)
  have := PySem.Flt.log2_lt_of (k := 40) (by decide) h1
  omega
theorem int_sh {i : Int} (h : i.natAbs < 10 ^ 12) : Sh 20 0 (.int i) := ⟨small_show h, Nat.le_trans (PyData.shown_int_le h) (by decide), by simp [PyData.depth]⟩
theorem bool_sh (b : Bool) : Sh 20 0 (.bool b) := by
  cases b <;> exact ⟨by decide +kernel, by decide +kernel, by decide +kernel⟩
theorem two_fit {a d : PyData} (ha : Sh 100000 6 a) (hd : Sh 100000 6 d) : Fit (.list [a, d]) :=
  (sh_lst (es := [a, d]) (c := 2) (m := 100000) (k := 6) (fun e he => by
    simp only [List.mem_cons, List.not_mem_nil, or_false] at he
    rcases he with rfl | rfl
    · exact ha
    · exact hd) (Nat.le_refl 2)).fit (by decide) (by decide)
theorem ints_sh {ns : List Int} {c : Nat} (h : ∀ x ∈ ns, x.natAbs < 10 ^ 12) (hc : ns.length ≤ c) : Sh (c * 22 + 3) 1 (.tuple (ns.map .int)) := sh_tup (m := 20) (k := 0) (fun e he => by
  obtain ⟨x, hx, rfl⟩ := List.mem_map.mp he
  exact int_sh (h x hx)) (by rw [List.length_map]; exact hc)
/-! ### what is old stays, but for the urn -/
structure Es (H H' : Hp) : Prop where
  keep : Exn H H'
  back : ∀ a, H' a = none → H a = none
theorem Es.of {H H' : Hp} (e : Ex H H') : Es H H' := ⟨fun a o _ h => e a o h, fun _ h => Evl.fresh_back e h⟩
theorem Es.trans {H H1 H2 : Hp} (a : Es H H1) (b : Es H1 H2) : Es H H2 := ⟨fun x o z h => b.keep x o z (a.keep x o z h), fun x h => a.back x (b.back x h)⟩
theorem Es.ex {H H1 H2 : Hp} (a : Es H H1) (b : Ex H1 H2) : Es H H2 := a.trans (.of b)
theorem Ed.es {P : Program} {w : World} {c l : Addr} {T : Nat} {H H' : Hp} (e : Ed P w c l T H H') : Es H H' := ⟨e.keep, e.back⟩
theorem Exn.of {H H' : Hp} (e : Ex H H') : Exn H H' := fun a o _ h => e a o h
theorem Exn.trans {H H1 H2 : Hp} (a : Exn H H1) (b : Exn H1 H2) : Exn H H2 := fun x o z h => b x o z (a x o z h)
/-- what is new since H, and what was known in B -/
def mix (B H H' : Hp) : Hp := fun a => if H a = none then H' a else B a
section
variable {B B0 H0 H H' : Hp}
theorem mix_new {p : Addr} {o : HO} (h : H p = none) (h2 : H' p = some o) : mix B H H' p = some o := by
  unfold mix
  rw [if_pos h]
  exact h2
theorem mix_mono (e : Exn H H') : Exn (mix B0 H0 H) (mix B0 H0 H') := fun a o z h => by
  unfold mix at h ⊢
  by_cases q : H0 a = none
  · rw [if_pos q] at h ⊢
    exact e a o z h
  · rw [if_neg q] at h ⊢
    exact h
theorem mix_at (b : Ex B0 H0) (e0 : Es H0 H) : Exn (mix B0 H0 H) H := fun a o z h => by
  unfold mix at h
  by_cases q : H0 a = none
  · rw [if_pos q] at h
    exact h
  · rw [if_neg q] at h
    exact e0.keep a o z (b a o h)
theorem mix_base (b : Ex B0 H0) : Ex B0 (mix B0 H0 H) := fun a o h => by
  unfold mix
  rw [if_neg (by rw [b a o h]; exact fun z => nomatch z)]
  exact h
/-- all but one place -/
def hid (D : Addr) (H : Hp) : Hp := fun a => if a = D then none else H a
theorem hid_upd {D : Addr} {o : HO} : hid D (upd H D o) = hid D H := by
  funext a
  unfold hid
  by_cases h : a = D
  · rw [if_pos h, if_pos h]
  · rw [if_neg h, if_neg h, upd_ne h]
theorem hid_mono {D : Addr} (e : Exn H H') : Exn (hid D H) (hid D H') := fun a o z h => by
  unfold hid at h ⊢
  by_cases q : a = D
  · rw [if_pos q] at h; cases h
  · rw [if_neg q] at h ⊢
    exact e a o z h
theorem hid_at {D : Addr} : Exn (hid D H) H := fun a o z h => by
  unfold hid at h
  by_cases q : a = D
  · rw [if_pos q] at h; cases h
  · rw [if_neg q] at h
    exact h
theorem mix_hid {D : Addr} (b : Ex B H) (e : Exn H H') (hB : B D = none) (hD : H D ≠ none) : Exn (mix B H H') (hid D H') := fun a o z h => by
  unfold mix at h
  unfold hid
  by_cases q : H a = none
  · rw [if_pos q] at h
    have : a ≠ D := fun y => hD (by rw [← y]; exact q)
    rw [if_neg this]
    exact h
  · rw [if_neg q] at h
    have : a ≠ D := fun y => by rw [y, hB] at h; cases h
    rw [if_neg this]
    exact e a o z (b a o h)
end
theorem tup_inv {H : Hp} {v : V} {ds : List PyData} (h : Dv H v (.tuple ds)) : ∃ a xs, v = .ref a ∧ H a = some (.tup xs) ∧ DvAll H xs ds := by
  cases h with
  | tup h t => exact ⟨_, _, rfl, h, t⟩
theorem np {σ : L2.St} {H : Hp} {Q : Option Int → Hp → Prop} (h : Q none H) : tNoPart σ H Q := h
theorem tn {σ : L2.St} {H : Hp} {Q : List V → Hp → Prop} (h : Q [] H) : tNil σ H Q := h
/-- a tuple of items that can be shown -/
def TA (m k c : Nat) (B : Hp) (v : V) : Prop := ∃ ds, Dv B v (.tuple ds) ∧ (∀ e ∈ ds, Sh m k e) ∧ ds.length ≤ c
theorem TA.mono {m k c : Nat} {B B' : Hp} {v : V} (h : TA m k c B v) (e : Exn B B') : TA m k c B' v := by
  obtain ⟨ds, a, b⟩ := h
  exact ⟨ds, a.exn e, b⟩
theorem TA.le {m k c c' : Nat} {B : Hp} {v : V} (h : TA m k c B v) (e : c ≤ c') : TA m k c' B v := by
  obtain ⟨ds, a, b, c⟩ := h
  exact ⟨ds, a, b, by omega⟩
/-- data that can be shown -/
def Da (m k : Nat) (B : Hp) (v : V) : Prop := ∃ d, Dv B v d ∧ Sh m k d
theorem Da.mono {m k : Nat} {B B' : Hp} {v : V} (h : Da m k B v) (e : Exn B B') : Da m k B' v := by
  obtain ⟨ds, a, b⟩ := h
  exact ⟨ds, a.exn e, b⟩
theorem TA.da {m k c m' k' : Nat} {B : Hp} {v : V} (h : TA m k c B v) (hm : c * (m + 2) + 3 ≤ m') (hk : k + 1 ≤ k') : Da m' k' B v := by
  obtain ⟨ds, a, b, hc⟩ := h
  exact ⟨_, a, (sh_tup b hc).mono hm hk⟩
section
variable {B0 H0 H H' : Hp} {K : PySem.W.Frag} {m k c c' : Nat} {v u : V} {Q : VK}
theorem dm_tup {p : Addr} {xs : List V} {ds : List PyData} (e0 : Es H0 H) (hp : H p = none) (h : DvAll (mix B0 H0 H) xs ds) : Dv (mix B0 H0 (upd H p (.tup xs))) (.ref p) (.tuple ds) :=
  .tup (mix_new (e0.back _ hp) upd_same) (h.exn (mix_mono (Exn.of (Evl.Ex.new hp))))
theorem dm_lst {p : Addr} {xs : List V} {ds : List PyData} (e0 : Es H0 H) (hp : H p = none) (h : DvAll (mix B0 H0 H) xs ds) : Dv (mix B0 H0 (upd H p (.lst xs))) (.ref p) (.list ds) :=
  .lst (mix_new (e0.back _ hp) upd_same) (h.exn (mix_mono (Exn.of (Evl.Ex.new hp))))
theorem dm_in {ds : List PyData} (b : Ex B0 H0) (e0 : Es H0 H) (h : Dv (mix B0 H0 H) v (.tuple ds)) : ∃ a xs, v = .ref a ∧ H a = some (.tup xs) ∧ DvAll (mix B0 H0 H) xs ds ∧ xs.length = ds.length := by
  obtain ⟨a, xs, rfl, h1, h2⟩ := tup_inv h
  exact ⟨a, xs, rfl, mix_at b e0 a _ rfl h1, h2, h2.len⟩
theorem cat_ta (b : Ex B0 H0) (e0 : Es H0 H) (h1 : TA m k c (mix B0 H0 H) v) (h2 : TA m k c' (mix B0 H0 H) u) (hl : c + c' ≤ 100000) (q : ∀ x H', Ex H H' → TA m k (c + c') (mix B0 H0 H') x → Q x H') : rCatA K v u H Q := by
  obtain ⟨ds, a1, a2, a3⟩ := h1
  obtain ⟨es, b1, b2, b3⟩ := h2
  obtain ⟨a, xs, rfl, ha, hx, lx⟩ := dm_in b e0 a1
  obtain ⟨a', ys, rfl, hb, hy, ly⟩ := dm_in b e0 b1
  have all : ∀ e ∈ ds ++ es, Sh m k e := fun y hy => by
    rcases List.mem_append.mp hy with z | z
    · exact a2 y z
    · exact b2 y z
  refine ⟨a, a', xs, ys, rfl, rfl, SqT.of ha, SqT.of hb, Evl.sz_of (by omega), fun z => ?_, fun _ z => ?_, fun _ _ p hp => q _ _ (Evl.Ex.new hp) ⟨_, dm_tup e0 hp (hx.app hy), all, by simp; omega⟩⟩
  · exact q _ _ (Evl.Ex.refl _) ⟨es, b1, b2, by omega⟩
  · exact q _ _ (Evl.Ex.refl _) ⟨ds, a1, a2, by omega⟩
theorem sl_ta {lo hi : Option Int} (b : Ex B0 H0) (e0 : Es H0 H) (h1 : TA m k c (mix B0 H0 H) v) (q : ∀ x H', Ex H H' → TA m k c (mix B0 H0 H') x → Q x H') : rSlA K v lo hi H Q := by
  obtain ⟨ds, a1, a2, a3⟩ := h1
  obtain ⟨a, xs, rfl, ha, hx, lx⟩ := dm_in b e0 a1
  refine ⟨a, xs, rfl, SqT.of ha, fun _ => q _ _ (Evl.Ex.refl _) ⟨ds, a1, a2, a3⟩, fun _ p hp => q _ _ (Evl.Ex.new hp) ⟨_, dm_tup e0 hp ((hx.drop _).take _), fun e he => a2 e (List.mem_of_mem_drop (List.mem_of_mem_take he)), ?_⟩⟩
  rw [List.length_take, List.length_drop]
  omega
theorem tup1_ta {e : PyData} {p : Addr} (e0 : Es H0 H) (h : Dv (mix B0 H0 H) v e) (hv : Sh m k e) (hp : H p = none) : TA m k 1 (mix B0 H0 (upd H p (.tup [v]))) (.ref p) :=
  ⟨[e], dm_tup e0 hp (.cons h .nil), fun x z => by rcases List.mem_singleton.mp z with rfl; exact hv, Nat.le_refl _⟩
theorem pick_all {B : Hp} {xs : List V} {ds : List PyData} (h : DvAll B xs ds) (f : Nat → Nat) : ∀ l : List Nat, DvAll B (l.filterMap fun j => xs[f j]?) (l.filterMap fun j => ds[f j]?)
  | [] => .nil
  | j :: l => by
    cases q : xs[f j]? with
    | none =>
      have : ds[f j]? = none := by
        have := List.getElem?_eq_none_iff.mp q
        rw [h.len] at this
        exact List.getElem?_eq_none this
      rw [List.filterMap_cons_none (by rw [q]), List.filterMap_cons_none (by rw [this])]
      exact pick_all h f l
    | some x =>
      obtain ⟨d, h1, h2⟩ := h.get q
      rw [List.filterMap_cons_some (by rw [q]), List.filterMap_cons_some (by rw [h1])]
      exact .cons h2 (pick_all h f l)
theorem rev_ta (b : Ex B0 H0) (e0 : Es H0 H) (h1 : TA m k c (mix B0 H0 H) v) :
    ∃ (a : Addr) (xs : List V), v = .ref a ∧ H a = some (.tup xs) ∧ ∀ (f : Nat → Nat) (n : Nat) p, n ≤ xs.length → H p = none → TA m k c (mix B0 H0 (upd H p (.tup ((List.range n).filterMap fun j => xs[f j]?)))) (.ref p) := by
  obtain ⟨ds, a1, a2, a3⟩ := h1
  obtain ⟨a, xs, rfl, ha, hx, lx⟩ := dm_in b e0 a1
  refine ⟨a, xs, rfl, ha, fun f n p hn hp => ⟨_, dm_tup e0 hp (pick_all hx f _), fun e he => ?_, ?_⟩⟩
  · obtain ⟨j, _, hj⟩ := List.mem_filterMap.mp he
    exact a2 e (List.mem_of_getElem? hj)
  · refine Nat.le_trans (List.length_filterMap_le _ _) ?_
    rw [List.length_range]
    omega
theorem lst_ta (b : Ex B0 H0) (e0 : Es H0 H) (h1 : TA m k c (mix B0 H0 H) v) (q : ∀ x H', Ex H H' → Da (c * (m + 2) + 3) (k + 1) (mix B0 H0 H') x → Q x H') : rLstOf K [v] H Q := by
  obtain ⟨ds, a1, a2, a3⟩ := h1
  obtain ⟨a, xs, rfl, ha, hx, lx⟩ := dm_in b e0 a1
  exact ⟨a, xs, rfl, .inr (SqT.of ha), fun l hl => q _ _ (Evl.Ex.new hl) ⟨_, dm_lst e0 hl hx, sh_lst a2 a3⟩⟩
end
/-! ### a list made turn by turn whose items may hold lists; the urn asked at each turn -/
section
variable {P : Program} {w : World} {te : TE} {vs : List Nat} {σ : L2.St} {H1 : Hp} {D c l : Addr} {T : Nat} {Qd : Hp → Prop} {j : Nat}
theorem made_rangeX {n : Nat} (m : Nat) (M : Hp → V → Prop) (C : UrnAt P w H1 c l T) (hD : H1 D = none) (hn : n < 100000) (st : ∀ v G G', Exn G G' → M G v → M G' v)
    (hw : ∀ x, wipe ((wipe σ vs).set j (some x)) vs = wipe σ vs)
    (he : ∀ i : Nat, i < n → ∀ H', Ed P w c l (T + i * m) H1 H' → H' D ≠ none → ∀ Q : VK, (∀ v H2, Ed P w c l (T + i * m + m) H' H2 → M (hid D H2) v → Q v H2) → te ((wipe σ vs).set j (some (.int (i : Int)))) H' Q)
    (hd : ∀ (ys : List V) H', ys.length = n → Ed P w c l (T + n * m) H1 H' → H' D = some (.lst ys) → (∀ v ∈ ys, M (hid D H') v) → Qd H') :
    ∃ W : Nat → Nat → Hp → Prop, (∃ m, W 0 m (upd H1 D (.lst []))) ∧ ∀ i m H, W i m H →
      ((Itr 0 n).stop i H ∧ Qd H) ∨ ((Itr 0 n).go i H ∧ ∃ Nx : Hp → Prop, (∀ H', Nx H' → ∃ m', m' < m ∧ W (i + 1) m' H') ∧ ∀ x H', (Itr 0 n).yld i H x H' → gName j x (wipe σ vs) H' fun σ2 H2 => wipe σ2 vs = wipe σ vs ∧ tYes σ2 H2 fun b H3 =>
        if b = true then te σ2 H3 fun y H4 => ∃ acc, H4 D = some (.lst acc) ∧ acc.length < sizeLine ∧ Nx (upd H4 D (.lst (acc ++ [y]))) else Nx H3) := by
  refine lc_range (lo := 0) (n := n) (fun i H' => ∃ ys : List V, ys.length = i ∧ Ed P w c l (T + i * m) H1 H' ∧ H' D = some (.lst ys) ∧ ∀ v ∈ ys, M (hid D H') v) ?_ ?_ ?_
  · refine ⟨[], rfl, ?_, upd_same, fun v z => (nomatch z)⟩
    rw [Nat.zero_mul]
    exact C.of (Evl.Ex.new hD)
  · rintro i H' hi ⟨ys, hl, e, hy, hm⟩
    have e0 : (0 : Int) + (i : Int) = (i : Int) := Int.zero_add _
    show wipe ((wipe σ vs).set j (some (.int (0 + (i : Int))))) vs = wipe σ vs ∧ tYes ((wipe σ vs).set j (some (.int (0 + (i : Int))))) H' _
    rw [e0]
    refine ⟨hw _, yesT (he i hi H' e (by rw [hy]; exact fun z => nomatch z) _ fun v H2 e2 hv => ?_)⟩
    refine ⟨ys, e2.sq hy, by rw [hl]; exact Evl.sz_lt (by omega), ys ++ [v], by simp [hl], ?_, upd_same, fun u hu => ?_⟩
    · have := Ed.mut (o := .lst (ys ++ [v])) (e.trans e2) hD
      rwa [show T + i * m + m = T + (i + 1) * m by rw [Nat.add_mul, Nat.one_mul, Nat.add_assoc]] at this
    · rw [hid_upd]
      rcases List.mem_append.mp hu with q | q
      · exact st u _ _ (hid_mono e2.keep) (hm u q)
      · rcases List.mem_singleton.mp q with rfl
        exact hv
  · rintro H' ⟨ys, hl, e, hy, hm⟩
    exact hd ys H' hl e hy hm
end
end Lr

namespace Lr
open PySem L2
def topS (i : Nat) : Stmt := PySem.Challenge.pw_lanerules_k11_orders_judged.main.body.getD i (.Pass ⟨0, 0, 0, 0⟩)
abbrev sPull : Stmt := topS 8
abbrev nPull : List Str := ["_law_urn_here", "_law_many", "_law_turn", "_law_cells", "_law_seat", "_law_cell", "_law_mixed_here"]
theorem scPull : FnScope nPull ["_law_urn_here", "_law_many"] (defScope sPull) :=
  ⟨rfl, rfl, rfl, by decide +kernel, rfl, by decide +kernel, by decide +kernel⟩
abbrev sUrn : Stmt := topS 7
abbrev nUrn : List Str := ["_law_script", "_law_cells", "_law_cell"]
theorem scUrn : FnScope nUrn ["_law_script"] (defScope sUrn) :=
  ⟨rfl, rfl, rfl, by decide +kernel, rfl, by decide +kernel, by decide +kernel⟩
section
variable {H : Hp} {c l : Addr} {t t' : Int}
theorem val_cells : valV (urnKvs l t) (Sum.inr "cells" : Key) = some (.ref l) := by
  simp [valV, urnKvs]
theorem val_turn : valV (urnKvs l t) (Sum.inr "turn" : Key) = some (.int t) := by
  have e : ¬ ((Sum.inr "cells" : Key) = (Sum.inr "turn" : Key)) := by decide
  simp [valV, urnKvs, List.find?, e]
theorem put_turn : putK (urnKvs l t) (Sum.inr "turn" : Key) (.int t') = urnKvs l t' := by
  have e : ¬ ((Sum.inr "cells" : Key) = (Sum.inr "turn" : Key)) := by decide
  simp [putK, urnKvs, e]
theorem merge_urn : mergeK [] (urnKvs l t) = urnKvs l t := by
  have e : ¬ ((Sum.inr "cells" : Key) = (Sum.inr "turn" : Key)) := by decide
  simp [mergeK, putK, urnKvs, e]
theorem get_cells (h : H c = some (.dK (urnKvs l t))) : DGet H c (.str "cells") (some (.ref l)) := by
  have g := DGet.k (k := Sum.inr "cells") h
  rw [val_cells] at g
  exact g
theorem get_turn (h : H c = some (.dK (urnKvs l t))) : DGet H c (.str "turn") (some (.int t)) := by
  have g := DGet.k (k := Sum.inr "turn") h
  rw [val_turn] at g
  exact g
theorem put_turn_at (h : H c = some (.dK (urnKvs l t))) : DPut H c (.str "turn") (.int t') (upd H c (.dK (urnKvs l t'))) := by
  have g := DPut.k (k := Sum.inr "turn") (v := .int t') h (by show 2 < sizeLine; decide)
  rw [put_turn] at g
  exact g
end
section
variable {P : Program} {w : World} {K : PySem.W.Frag} {mg : Str → Option Value} {base : Heap}
def spPull (P : Program) (w : World) : Sp := fun vs H Q _ => ∃ (c l : Addr) (m : Int) (T : Nat), vs = [.ref c, .int m] ∧ UrnAt P w H c l T ∧ T ≤ 1000000000 ∧ 0 < m ∧ m < 1000000 ∧ ∀ r H', Ed P w c l (T + 1) H H' → 0 ≤ r → r < m → Q (.int r) H'
theorem ok_pull {f : Addr} {fd : FuncData} (F : Fun K "_law_pull" "_law_pull" sPull f fd) (T : Blt mg) : FnOk P w K mg base CX0 1 f fd ["_law_urn_here", "_law_many"] (spPull P w) := by
  refine F.ok scPull (fun vs H Q E h => ?_) (fun cdv A outer s H vs Q E hr h => ?_)
  · obtain ⟨c, l, m, T, rfl, _⟩ := h
    rfl
  obtain ⟨c, l, m, T0, rfl, C, hT, hm, hm2, k⟩ := h
  have hu := hu_of hr
  refine ⟨_, pss_urn (pss_cons (ps_par (i := 2) (j := 3) rfl scPull.nd rfl rfl (by decide) rfl rfl (pa_cons (pe_dget hu (pv 0) pe_str (fun _ _ => rfl)) (pa_cons (pe_dget hu (pv 0) pe_str (fun _ _ => rfl)) pa_nil)) rfl)
    (pss_cons (ps_dput hu (pv 0) pe_str (pe_op op_add (pv 2) pe_int) rfl)
    (pss_cons (ps_set (i := 4) scPull.nd rfl (Or.inl rfl) (pe_op op_modN (pv 2) (pe_callB (k_len (K := K) rfl) rfl T.len bt_len (pa_cons (pv 3) pa_nil))))
    (pss_cons (ps_set (i := 5) scPull.nd rfl (Or.inl rfl) (pe_ix (kx_list (K := K) rfl) (pv 3) (pv 4) (fun _ _ => rfl)))
    (pss_cons (ps_if (pt_cmpR op_ge (pv 5) (pe_op op_pow pe_int pe_int) (nomark _)) (pss_cons (ps_asg (pe_op op_fdivW (pv 5) (pv 1)) (pg_sub (pv 3) (pv 4) set_list))
      (pss_one (ps_ret (pe_op op_modN (pv 5) (pv 1))))) pss_nil)
    (pss_cons (ps_set (i := 6) scPull.nd rfl (Or.inl rfl) (pe_op op_add (pe_op op_mul (pe_op op_modN (pv 5) pe_int) pe_int) (pe_op op_mul (pe_op op_mul (pv 2) (pv 2)) pe_int)))
    (pss_cons (ps_set (i := 6) scPull.nd rfl (Or.inl rfl) (pe_op op_modN (pe_op op_add (pe_op op_add (pv 6) (pe_op op_mul pe_int (pv 2))) pe_int) pe_int))
    (pss_cons (ps_set (i := 6) scPull.nd rfl (Or.inl rfl) (pe_op op_modN (pe_op op_mul (pe_op op_modN (pe_op op_mul (pv 6) (pv 6)) pe_int) pe_int) pe_int))
    (pss_one (ps_ret (pe_op op_modN (pe_op op_fdivW (pe_op op_modN (pe_op op_mul (pv 6) (pe_op op_add (pe_op op_add (pv 6) (pe_op op_mul pe_int (pv 2))) pe_int)) pe_int) pe_int) (pv 1)))))))))))), ?_⟩
  have sc := C.cc
  have sl := C.ll
  obtain ⟨T1, hT1, h1, h2, hcl⟩ := C
  refine ⟨c, l, T1, T1 + 1, h1, h2, hcl, fun tm cs t0 t1 g => ?_⟩
  have q1 : upd (upd H c (.dK (urnKvs l tm))) l (.lst (cs.map V.int)) c = some (.dK (urnKvs l tm)) := by rw [upd_ne hcl.symm, upd_same]
  have q2 : upd (upd H c (.dK (urnKvs l tm))) l (.lst (cs.map V.int)) l = some (.lst (cs.map V.int)) := upd_same
  have o1 : ∀ b, b ≠ c → b ≠ l → upd (upd H c (.dK (urnKvs l tm))) l (.lst (cs.map V.int)) b = H b := fun b n1 n2 => by rw [upd_ne n2, upd_ne n1]
  generalize upd (upd H c (.dK (urnKvs l tm))) l (.lst (cs.map V.int)) = G at q1 q2 o1 ⊢
  -- the way back
  have back : ∀ H1 : Hp, (∀ b, b ≠ c → b ≠ l → H1 b = H b) → Ed P w c l (T0 + 1) H (upd (upd H1 c (.ext (phiU P w c l (T1 + 1)))) l (.ext (phiL P w l))) := fun H1 o => by
    refine ⟨fun b u z e => ?_, fun b e => ?_, ⟨T1 + 1, by omega, by rw [upd_ne hcl.symm, upd_same], upd_same, hcl⟩, sc, sl⟩
    · have nc : b ≠ c := fun y => by rw [y, h1] at e; cases e; cases z
      have nl : b ≠ l := fun y => by rw [y, h2] at e; cases e; cases z
      rw [upd_ne nl, upd_ne nc, o b nc nl]
      exact e
    · by_cases hl : b = l
      · rw [hl, upd_same] at e; cases e
      · rw [upd_ne hl] at e
        by_cases hc : b = c
        · rw [hc, upd_same] at e; cases e
        · rw [upd_ne hc, o b hc hl] at e
          exact e
  -- turn, cells = ..
  refine ⟨_, rfl, c, _, rfl, get_turn q1, _, rfl, c, _, rfl, get_cells q1, _, _, rfl, ?_⟩
  -- urn['turn'] = turn + 1
  refine ⟨_, rfl, _, _, rfl, rfl, _, rfl, c, _, rfl, put_turn_at q1, ?_⟩
  have p1 : upd G c (.dK (urnKvs l (tm + 1))) c = some (.dK (urnKvs l (tm + 1))) := upd_same
  have p2 : upd G c (.dK (urnKvs l (tm + 1))) l = some (.lst (cs.map V.int)) := by rw [upd_ne hcl]; exact q2
  have p3 : ∀ b, b ≠ c → b ≠ l → upd G c (.dK (urnKvs l (tm + 1))) b = H b := fun b n1 n2 => by rw [upd_ne n1]; exact o1 b n1 n2
  generalize upd G c (.dK (urnKvs l (tm + 1))) = G2 at p1 p2 p3 ⊢
  have hl : 0 < cs.length := List.length_pos_iff.mpr g.2.1
  have hl0 : ((cs.map V.int).length : Int) ≠ 0 := by rw [List.length_map]; omega
  have b0 := Int.fmod_nonneg_of_pos tm (b := ((cs.map V.int).length : Int)) (by rw [List.length_map]; omega)
  have b1 := Int.fmod_lt_of_pos tm (b := ((cs.map V.int).length : Int)) (by rw [List.length_map]; omega)
  -- seat, cell
  refine ⟨_, rfl, _, rfl, l, _, rfl, .inl (SqL.of p2), _, _, rfl, rfl, hl0, ?_⟩
  obtain ⟨j, jj⟩ : ∃ j, tm.fmod ((cs.map V.int).length : Int) = j := ⟨_, rfl⟩
  rw [jj] at b0 b1
  rw [List.length_map] at b1
  have hj : j.toNat < cs.length := by omega
  have ej : ((j.toNat : Nat) : Int) = j := by omega
  have ha : atI (cs.map V.int) (tm.fmod ((cs.map V.int).length : Int)) = some (.int cs[j.toNat]) := by
    have := atI_nat (xs := cs.map V.int) (j := j.toNat) (v := .int cs[j.toNat]) (by rw [List.getElem?_map, List.getElem?_eq_getElem hj]; rfl)
    rw [ej] at this
    rw [jj]
    exact this
  have hx0 := g.1 _ (List.getElem_mem hj)
  generalize cs[j.toNat] = x at hx0 ha
  refine ⟨_, rfl, _, rfl, l, _, _, _, rfl, rfl, SqL.of p2, ha, ?_⟩
  -- if cell >= 10 ** 18
  refine ⟨_, rfl, _, _, rfl, rfl, ⟨by decide, by decide, by decide⟩, _, _, rfl, rfl, _, rfl, ?_⟩
  refine ite2 (fun _ => ?_) (fun _ => ?_)
  · have hi : ixN (cs.map V.int).length (tm.fmod ((cs.map V.int).length : Int)) = some j.toNat := by
      rw [jj]
      unfold ixN
      rw [List.length_map, if_pos b0, if_pos b1]
    refine ⟨_, rfl, _, rfl, _, _, rfl, rfl, wide_div hm (b := 20) (by omega) (by decide) (by decide), _, rfl, _, rfl, l, _, _, j.toNat, rfl, rfl, p2, hi, ?_⟩
    refine ⟨_, rfl, _, rfl, _, _, rfl, rfl, by omega, tm + 1, cs.set j.toNat (x / m), by rw [upd_ne hcl.symm]; exact p1, by rw [upd_same, ← List.map_set], by omega, by omega, ⟨fun y hy => ?_, ?_, by rw [List.length_set]; exact g.2.2⟩, ?_⟩
    · rcases List.mem_or_eq_of_mem_set hy with q | rfl
      · exact g.1 y q
      · exact Int.ediv_nonneg hx0 (by omega)
    · intro z
      have := congrArg List.length z
      rw [List.length_set] at this
      simp at this
      exact g.2.1 this
    · exact k _ _ (back _ fun b n1 n2 => by rw [upd_ne n2]; exact p3 b n1 n2) (Int.fmod_nonneg_of_pos _ hm) (Int.fmod_lt_of_pos _ hm)
  · have big : ∀ y : Int, 0 ≤ y.fmod 2147483629 ∧ y.fmod 2147483629 < 2147483629 := fun y => ⟨Int.fmod_nonneg_of_pos _ (by decide), Int.fmod_lt_of_pos _ (by decide)⟩
    have big2 : ∀ y : Int, 0 ≤ y.fmod 2147483563 ∧ y.fmod 2147483563 < 2147483563 := fun y => ⟨Int.fmod_nonneg_of_pos _ (by decide), Int.fmod_lt_of_pos _ (by decide)⟩
    have mul1 : ∀ y z : Int, CMul (y.fmod 2147483629) z := fun y z => .inl (by have := big y; omega)
    have mul2 : ∀ y z : Int, CMul (y.fmod 2147483563) z := fun y z => .inl (by have := big2 y; omega)
    have nz007 : (1000000007 : Int) ≠ 0 := by decide
    have nz629 : (2147483629 : Int) ≠ 0 := by decide
    have nz587 : (2147483587 : Int) ≠ 0 := by decide
    have nz563 : (2147483563 : Int) ≠ 0 := by decide
    -- cell % .. * 40503 + turn * turn * 69069
    refine ⟨_, rfl, _, _, rfl, rfl, nz007, _, _, rfl, rfl, .inr (by decide), _, rfl, _, rfl, _, _, rfl, rfl, .inl (by omega), _, _, rfl, rfl, .inr (by decide), _, _, rfl, rfl, ?_⟩
    refine ⟨_, rfl, _, rfl, _, _, rfl, rfl, .inl (by decide), _, _, rfl, rfl, _, _, rfl, rfl, _, _, rfl, rfl, nz629, ?_⟩
    refine ⟨_, rfl, _, rfl, _, _, rfl, rfl, mul1 _ _, _, _, rfl, rfl, nz587, _, _, rfl, rfl, .inr (by decide), _, _, rfl, rfl, nz563, ?_⟩
    refine ⟨_, rfl, _, rfl, _, rfl, _, _, rfl, rfl, .inl (by decide), _, _, rfl, rfl, _, _, rfl, rfl, _, _, rfl, rfl, mul2 _ _, _, _, rfl, rfl, nz629, _, _, rfl, rfl, wide_div (by decide) (b := 20) (by decide) (by decide) (by decide), _, rfl, _, _, rfl, rfl, by omega, tm + 1, cs, p1, p2, by omega, by omega, g, ?_⟩
    exact k _ _ (back _ p3) (Int.fmod_nonneg_of_pos _ hm) (Int.fmod_lt_of_pos _ hm)
def spUrn (P : Program) (w : World) (K : PySem.W.Frag) : Sp := fun vs H Q _ => ∃ (a : Addr) (ns : List Int), vs = [.ref a] ∧ SqL K H a (ns.map V.int) ∧ ns.length ≤ 63 ∧ ∀ c l H', Ex H H' → UrnAt P w H' c l 0 → Q (.ref c) H'
theorem cut_to' {ns : List Int} {k : Nat} : cutV (ns.map V.int) none (some (k : Int)) = (ns.take k).map V.int := by
  rw [cut_to, List.map_take]
theorem ok_urn {f : Addr} {fd : FuncData} (F : Fun K "_law_urn" "_law_urn" sUrn f fd) (T : Blt mg) : FnOk P w K mg base CX0 1 f fd ["_law_script"] (spUrn P w K) := by
  refine F.ok scUrn (fun vs H Q E h => ?_) (fun cdv A outer s H vs Q E hr h => ?_)
  · obtain ⟨a, ns, rfl, _⟩ := h
    rfl
  obtain ⟨a, ns, rfl, hS, hlen, k⟩ := h
  refine ⟨_, pss_shutU (pss_cons (ps_setLc (i := 1) (own := [("_law_cell", 2)]) (g := gName 2) (by rfl) scUrn.nd rfl rfl (sw_true rfl rfl rfl (by decide +kernel)) (ki_list (K := K) rfl (pe_slice (ks_list (K := K) rfl) (pv 0) po_none (po_some pe_int))) (blkOk_by (own := [("_law_cell", 2)]) (N := nUrn) (sc := defScope sUrn) (by decide +kernel)) (fun _ _ _ _ _ => (pg_name (i := 2) scUrn.nd rfl (Or.inl rfl))) (fun _ _ _ _ _ => pts_nil) (fun _ _ _ _ _ => (pe_callB call_abs rfl T.abs bt_abs (pa_cons (pv 2) pa_nil))))
    (pss_one (ps_ret (pe_disp (pps_cons pe_str (pe_op op_cat (pv 1) (pe_op op_rep (pe_lst (pa_cons pe_int pa_nil)) (pe_callTy call_int1 rfl T.int bt_int (pa_cons (pe_cmpR (ko_eqD (K := K) rfl hr.units) (pv 1) (pe_lst pa_nil) (nomark _)) pa_nil)))) (pps_cons pe_str pe_int pps_nil)) (by rfl) (by rfl) (fun z => by cases z) (by decide))))), ?_⟩
  have c58 : cutV (ns.map V.int) none (some 58) = (ns.take 58).map V.int := cut_to' (k := 58)
  -- cells = [abs(cell) for cell in script[:58]]
  refine ⟨_, rfl, _, rfl, a, _, rfl, hS, fun p hp => ?_⟩
  rw [c58]
  have hlen2 : (ns.take 58).length ≤ 58 := by rw [List.length_take]; omega
  generalize ns.take 58 = ns at hlen2 ⊢
  refine ⟨p, rfl, ⟨_, SqL.of upd_same⟩, fun D hD => made_list (fun _ v _ => ∃ z, v = .int z ∧ 0 ≤ z) hD (SqL.of upd_same) (by rw [List.length_map]; omega) (fun _ _ _ _ _ _ _ m => m) (fun _ => rfl) ?_ ?_⟩
  · intro i x hi H' _ Q1 q
    rw [List.getElem?_map] at hi
    cases e2 : ns[i]? with
    | none => rw [e2] at hi; cases hi
    | some z =>
      rw [e2] at hi
      cases hi
      exact ⟨_, rfl, z, rfl, q _ H' (Evl.Ex.refl _) ⟨_, rfl, by first | omega | (split <;> omega)⟩⟩
  intro ys H1 hy e1 h1 hm
  rw [List.length_map] at hy
  obtain ⟨cs, rfl⟩ : ∃ cs : List Int, ys = cs.map V.int := ints_of fun k v hk => let ⟨z, h, _⟩ := hm k v hk; ⟨z, h⟩
  have hpos : ∀ x ∈ cs, 0 ≤ x := fun x hx => by
    obtain ⟨i, hi⟩ := List.mem_iff_getElem?.mp hx
    obtain ⟨z, h, h0⟩ := hm i (.int x) (by rw [List.getElem?_map, hi]; rfl)
    cases h
    exact h0
  rw [List.length_map] at hy
  have nD : H D = none := Evl.fresh_back (Evl.Ex.new hp) hD
  have e0 : Ex H H1 := (Evl.Ex.new hp).trans e1
  -- {'cells': cells + [31] * int(cells == []), 'turn': 0}
  intro c hc
  have ncD : D ≠ c := ne_of_none h1 hc
  have gD : upd H1 c (.dK []) D = some (.lst (cs.map V.int)) := by rw [upd_ne ncD]; exact h1
  have gc : upd H1 c (.dK []) c = some (.dK []) := upd_same
  have eG : Ex H1 (upd H1 c (.dK [])) := Evl.Ex.new hc
  generalize upd H1 c (.dK []) = G at gD gc eG ⊢
  refine ⟨_, rfl, (by show 1 ≤ sizeLine; decide), fun q hq => ⟨_, rfl, (by show 0 ≤ sizeLine; decide), fun r hr2 => ?_⟩⟩
  have nqr : q ≠ r := ne_of_none upd_same hr2
  have gD1 : upd G q (.lst [.int 31]) D = some (.lst (cs.map V.int)) := by rw [upd_ne (ne_of_none gD hq)]; exact gD
  have gD2 : upd (upd G q (.lst [.int 31])) r (.lst []) D = some (.lst (cs.map V.int)) := by rw [upd_ne (ne_of_none gD1 hr2)]; exact gD1
  have gq2 : upd (upd G q (.lst [.int 31])) r (.lst []) q = some (.lst [.int 31]) := by rw [upd_ne nqr]; exact upd_same
  have e2 : Ex G (upd (upd G q (.lst [.int 31])) r (.lst [])) := (Evl.Ex.new hq).trans (Evl.Ex.new hr2)
  have gr2 : upd (upd G q (.lst [.int 31])) r (.lst []) r = some (.lst []) := upd_same
  generalize upd (upd G q (.lst [.int 31])) r (.lst []) = G2 at gD2 gq2 gr2 e2 ⊢
  refine ⟨.list (cs.map .int), .list [], .lst (SqL.of gD2) (dp_ints _ _ cs), .lst (SqL.of gr2) .nil, shaped_ints cs, shaped_ints [], .inr ⟨_, rfl, q, _, _, rfl, rfl, gq2, ?_, ?_, ?_, fun u hu2 => ?_⟩⟩
  · split <;> decide
  · split <;> decide
  · rw [eqv_nil]
    cases cs
    · decide
    · exact Nat.zero_le _
  have nDu : D ≠ u := ne_of_none gD2 hu2
  refine ⟨D, u, _, _, rfl, rfl, by rw [upd_ne nDu]; exact gD2, upd_same, ?_, fun al hal => ?_⟩
  · rw [eqv_nil, List.length_map]
    cases cs with
    | nil => decide
    | cons y r => exact Nat.le_trans (by simp at hy ⊢; omega) (by decide : 63 ≤ sizeLine)
  have ecs : cs.map V.int ++ (List.replicate (if PyData.eqv (.list (cs.map .int)) (.list []) = true then (1 : Int) else 0).toNat [V.int 31]).flatten = (if cs.isEmpty then [31] else cs).map V.int := by
    rw [eqv_nil]
    cases cs <;> simp
  rw [ecs]
  have hok : CellsOk (if cs.isEmpty then [31] else cs) := by
    cases cs with
    | nil => exact ⟨by intro x hx; simp at hx; omega, by simp, by simp⟩
    | cons y r => exact ⟨by simpa using hpos, by simp, by simp at hy ⊢; omega⟩
  generalize (if cs.isEmpty then [31] else cs) = ws at hok ⊢
  have c2 : G2 c = some (.dK []) := e2 _ _ gc
  have ncu : c ≠ u := ne_of_none c2 hu2
  have ncal : c ≠ al := ne_of_none (by rw [upd_ne ncu]; exact c2) hal
  have c3 : upd (upd G2 u (.lst (List.replicate (if PyData.eqv (.list (cs.map .int)) (.list []) = true then (1 : Int) else 0).toNat [V.int 31]).flatten)) al (.lst (ws.map V.int)) c = some (.dK []) := by
    rw [upd_ne ncal, upd_ne ncu]
    exact c2
  have a3 : upd (upd G2 u (.lst (List.replicate (if PyData.eqv (.list (cs.map .int)) (.list []) = true then (1 : Int) else 0).toNat [V.int 31]).flatten)) al (.lst (ws.map V.int)) al = some (.lst (ws.map V.int)) := upd_same
  have e3 : Ex H1 (upd (upd G2 u (.lst (List.replicate (if PyData.eqv (.list (cs.map .int)) (.list []) = true then (1 : Int) else 0).toNat [V.int 31]).flatten)) al (.lst (ws.map V.int))) :=
    ((eG.trans e2).trans (Evl.Ex.new hu2)).trans (Evl.Ex.new hal)
  have nal : H1 al = none := Evl.fresh_back ((eG.trans e2).trans (Evl.Ex.new hu2)) hal
  generalize upd (upd G2 u (.lst (List.replicate (if PyData.eqv (.list (cs.map .int)) (.list []) = true then (1 : Int) else 0).toNat [V.int 31]).flatten)) al (.lst (ws.map V.int)) = G3 at c3 a3 e3 ⊢
  refine ⟨c3, urnKvs al 0, rfl, (by show 2 ≤ 15; decide), c, al, 0, ws, 0, rfl, by rw [upd_same, merge_urn], by rw [upd_ne ncal.symm]; exact a3, by decide, by decide, hok, ncal.symm, ?_⟩
  have nc1 : H1 c = none := hc
  exact k c al _ (e0.trans (Evl.Ex.mut (Evl.Ex.mut (Evl.Ex.mut e3 nc1) nc1) nal)) ⟨0, Nat.le_refl _, by rw [upd_ne ncal]; exact upd_same, upd_same, ncal.symm⟩
end
end Lr

namespace Lr
open PySem L2
abbrev sMixed : Stmt := topS 9
abbrev nMixed : List Str := ["_law_urn_here", "_law_items", "_law_pool", "_law_found"]
theorem scMixed : FnScope nMixed ["_law_urn_here", "_law_items"] (defScope sMixed) :=
  ⟨rfl, rfl, rfl, by decide +kernel, rfl, by decide +kernel, by decide +kernel⟩
abbrev sRule : Stmt := topS 10
abbrev nRule : List Str := ["_law_urn_here", "_law_many", "_law_way", "_law_base", "_law_last", "_law_lane", "_law_k"]
theorem scRule : FnScope nRule ["_law_urn_here"] (defScope sRule) :=
  ⟨rfl, rfl, rfl, by decide +kernel, rfl, by decide +kernel, by decide +kernel⟩
abbrev sRow : Stmt := topS 11
abbrev nRow : List Str := ["_law_urn_here", "_law_rule_here", "_law_cars", "_law_many", "_law_lanes", "_law_way", "_law_car"]
theorem scRow : FnScope nRow ["_law_urn_here", "_law_rule_here", "_law_cars"] (defScope sRow) :=
  ⟨rfl, rfl, rfl, by decide +kernel, rfl, by decide +kernel, by decide +kernel⟩
section
variable {P : Program} {w : World} {K : PySem.W.Frag} {mg : Str → Option Value} {base : Heap}
def spMixed (P : Program) (w : World) (K : PySem.W.Frag) : Sp := fun vs H Q _ => ∃ (c l p : Addr) (ns : List Int) (T : Nat), vs = [.ref c, .ref p] ∧ UrnAt P w H c l T ∧ T ≤ 900000000 ∧ (SqL K H p (ns.map V.int) ∨ SqT K H p (ns.map V.int)) ∧ ns.length ≤ 1000 ∧
  ∀ (q : Addr) (ms : List Int) H', Ed P w c l (T + ns.length) H H' → H' q = some (.tup (ms.map V.int)) → ms.Perm ns → Q (.ref q) H'
theorem ok_mixed {f : Addr} {fd : FuncData} (F : Fun K "_law_mixed" "_law_mixed" sMixed f fd) (T : Blt mg) (c_law_pull : Cal P w K mg base 1 "_law_pull" ["_law_urn_here", "_law_many"] (spPull P w)) :
    FnOk P w K mg base CX0 2 f fd ["_law_urn_here", "_law_items"] (spMixed P w K) := by
  refine F.ok scMixed (fun vs H Q E h => ?_) (fun cdv A outer s H vs Q E hr h => ?_)
  · obtain ⟨c, l, p, ns, T, rfl, _⟩ := h
    rfl
  obtain ⟨c, u, p, ns, T0, rfl, C, hT, hp, hn, k⟩ := h
  refine ⟨_, (pss_cons (ps_par (i := 2) (j := 3) rfl scMixed.nd rfl rfl (by decide) rfl rfl (pa_cons (pe_callTy (k_list_of (K := K) rfl) rfl T.list bt_list (pa_cons (pv 1) pa_nil)) (pa_cons (pe_lst pa_nil) pa_nil)) rfl)
    (pss_cons (ps_while PassesOwn.never (pt_cmpR (ko_neD (K := K) rfl hr.units) (pv 2) (pe_lst pa_nil) (nomark _)) (pss_one (ps_expr (pe_bm PySem.F.plainAttrs_list PySem.F.slot_list_append PySem.F.type_list_append mt_append (pv 3) (pa_cons (pe_bm PySem.F.plainAttrs_list PySem.F.slot_list_pop PySem.F.type_list_pop mt_popAt (pv 2) (pa_cons (pe_cal c_law_pull (hr.mono (by decide)) rfl (pa_cons (pv 0) (pa_cons (pe_callB (k_len (K := K) rfl) rfl T.len bt_len (pa_cons (pv 2) pa_nil)) pa_nil))) pa_nil)) pa_nil)))))
    (pss_one (ps_ret (pe_callTy (k_tuple_of (K := K) rfl) rfl T.tuple bt_tuple (pa_cons (pv 3) pa_nil)))))), ?_⟩
  -- pool, found = list(items), []
  refine ⟨_, rfl, p, _, rfl, hp, fun l hl => ⟨(by show 0 ≤ sizeLine; decide), fun m hm => ⟨_, _, rfl, ?_⟩⟩⟩
  have nlm : l ≠ m := ne_of_none upd_same hm
  have hm0 : H m = none := Evl.fresh_back (Evl.Ex.new hl) hm
  -- while pool != []
  refine ⟨fun t σ H' => ∃ rs fs : List Int, t = rs.length ∧ σ = [some (.ref c), some (.ref p), some (.ref l), some (.ref m)] ∧ H' l = some (.lst (rs.map V.int)) ∧ H' m = some (.lst (fs.map V.int)) ∧ (fs ++ rs).Perm ns ∧ Ed P w c u (T0 + fs.length) H H',
    ⟨_, ns, [], rfl, rfl, by rw [upd_ne nlm]; exact upd_same, upd_same, List.Perm.refl _, C.of ((Evl.Ex.new hl).trans (Evl.Ex.new hm))⟩, ?_⟩
  rintro t σ H' ⟨rs, fs, rfl, rfl, h1, h2, hp, e⟩
  refine ⟨_, rfl, (by show 0 ≤ sizeLine; decide), fun z hz => ?_⟩
  have q1 : upd H' z (.lst []) l = some (.lst (rs.map V.int)) := by rw [upd_ne (ne_of_none h1 hz)]; exact h1
  have q2 : upd H' z (.lst []) m = some (.lst (fs.map V.int)) := by rw [upd_ne (ne_of_none h2 hz)]; exact h2
  have q3 : upd H' z (.lst []) z = some (.lst []) := upd_same
  have q4 : Ed P w c u (T0 + fs.length) H (upd H' z (.lst [])) := e.new hz
  generalize upd H' z (.lst []) = G at q1 q2 q3 q4 ⊢
  refine ⟨.list (rs.map .int), .list [], .lst (SqL.of q1) (dp_ints _ _ rs), .lst (SqL.of q3) .nil, shaped_ints rs, shaped_ints [], _, rfl, ?_⟩
  rw [eqv_nil]
  have hlen : fs.length + rs.length = ns.length := by
    have := hp.length_eq
    rw [List.length_append] at this
    exact this
  cases hrs : rs.isEmpty with
  | false =>
    refine iteT ⟨_, fun σ' H' h => h, ?_⟩
    have hpos : 0 < rs.length := by cases rs with | nil => simp at hrs | cons _ _ => simp
    have ll : ((rs.map V.int).length : Int) = rs.length := by rw [List.length_map]
    refine ⟨_, rfl, .inl ⟨rfl, _, SqL.of q2⟩, _, rfl, .inl ⟨rfl, _, SqL.of q1⟩, _, rfl, _, rfl, l, _, rfl, .inl (SqL.of q1), c, u, _, _, rfl, q4.urn, by omega, by omega, by omega, fun r H2 e2 r0 r1 => ?_⟩
    rw [ll] at r1
    obtain ⟨x, hx, hE, hP, hI⟩ := pick r0 r1
    refine ⟨l, _, r, r.toNat, .int x, rfl, rfl, e2.sq q1, by omega, by omega, hI, hx, ?_⟩
    rw [hE]
    refine ⟨m, _, _, rfl, rfl, by rw [upd_ne nlm.symm]; exact e2.sq q2, by rw [List.length_map]; exact Nat.lt_of_le_of_lt (by omega) (by decide : 1000 < sizeLine), ?_⟩
    have hle : (rs.eraseIdx r.toNat).length < rs.length := by
      have := hP.length_eq
      simp at this
      omega
    refine ⟨_, hle, rs.eraseIdx r.toNat, fs ++ [x], rfl, rfl, by rw [upd_ne nlm, upd_same], by rw [upd_same, List.map_append]; rfl, ?_, (Ed.mut (Ed.mut (q4.trans e2) hl) hm0).le (by simp; omega)⟩
    rw [List.append_assoc]
    exact (List.Perm.append_left fs hP).trans hp
  | true =>
    refine iteF ?_
    have hr0 : rs = [] := List.isEmpty_iff.mp hrs
    subst hr0
    rw [List.append_nil] at hp
    have hfl : fs.length = ns.length := hp.length_eq
    exact ⟨_, rfl, m, _, rfl, .inl ⟨SqL.of q2, fun p hp2 => k p fs _ ((q4.new hp2).le (by omega)) upd_same hp⟩⟩
def spRule (P : Program) (w : World) : Sp := fun vs H Q _ => ∃ (c l : Addr) (T : Nat), vs = [.ref c] ∧ UrnAt P w H c l T ∧ T ≤ 800000000 ∧ ∀ (v : V) (n : Nat) (ps : List (List Int)) H', Ed P w c l (T + 100) H H' → n ≤ 6 → RuleOk n ps → Dv H' v (ruleD ps) → Q v H'
theorem ok_rule {f : Addr} {fd : FuncData} (F : Fun K "_law_rule" "_law_rule" sRule f fd) (T : Blt mg) (c_law_pull : Cal P w K mg base 1 "_law_pull" ["_law_urn_here", "_law_many"] (spPull P w))
    (c_law_mixed : Cal P w K mg base 2 "_law_mixed" ["_law_urn_here", "_law_items"] (spMixed P w K)) : FnOk P w K mg base CX0 3 f fd ["_law_urn_here"] (spRule P w) := by
  refine F.ok scRule (fun vs H Q E h => ?_) (fun cdv A outer s H vs Q E hr h => ?_)
  · obtain ⟨c, l, T, rfl, _⟩ := h
    rfl
  obtain ⟨c, u, T0, rfl, C, hT, k⟩ := h
  refine ⟨_, (pss_cons (ps_par (i := 1) (j := 2) rfl scRule.nd rfl rfl (by decide) rfl rfl (pa_cons (pe_ix (kx_list (K := K) rfl) (pe_lst (pa_cons pe_int (pa_cons pe_int (pa_cons pe_int (pa_cons pe_int (pa_cons pe_int (pa_cons pe_int pa_nil))))))) (pe_cal c_law_pull (hr.mono (by decide)) rfl (pa_cons (pv 0) (pa_cons pe_int pa_nil))) (fun _ _ => rfl)) (pa_cons (pe_cal c_law_pull (hr.mono (by decide)) rfl (pa_cons (pv 0) (pa_cons pe_int pa_nil))) pa_nil)) rfl)
    (pss_cons (ps_set (i := 3) scRule.nd rfl (Or.inr rfl) (pe_cal c_law_mixed (hr.mono (by decide)) rfl (pa_cons (pv 0) (pa_cons (pe_listRg rfl rfl T.list (prg_1 rfl T.range (pv 1))) pa_nil))))
    (pss_cons (ps_if (pt_cmpR op_eq (pv 2) pe_int (nomark _)) (pss_one (ps_ret (pe_op (ko_repT (K := K) rfl) (pe_tup (pa_cons (pv 3) pa_nil)) (pe_op op_add (pv 1) pe_int)))) pss_nil)
    (pss_cons (ps_if (pt_cmpR op_eq (pv 2) pe_int (nomark _)) (pss_one (ps_ret (pe_op (ko_catT (K := K) rfl) (pe_tup (pa_cons (pv 3) pa_nil)) (pe_callTy (k_tuple_of (K := K) rfl) rfl T.tuple bt_tuple (pa_cons (pe_lc (own := [("_law_last", 4)]) (g := gName 4)  (by rfl) scRule.nd (pi_range1 rfl T.range (pa_cons (pv 1) pa_nil)) (blkOk_by (own := [("_law_last", 4)]) (N := nRule) (sc := defScope sRule) (by decide +kernel)) (fun _ _ _ _ _ => (pg_name (i := 4) scRule.nd rfl (Or.inr rfl))) (fun _ _ _ _ _ => pts_nil) (fun _ _ _ _ _ => (pe_callTy (k_tuple_of (K := K) rfl) rfl T.tuple bt_tuple (pa_cons (pe_op op_cat (pe_lc (own := [("_law_lane", 5)]) (g := gName 5) (wi := iTup K (tVar 3)) (tt := tTest (tOp rNe (tVar 5) (tVar 4))) (te := tVar 5) (by rfl) scRule.nd (ki_tup (K := K) rfl (pv 3)) (blkOk_by (own := [("_law_lane", 5)]) (N := nRule) (by kernel_rfl)) (fun _ _ _ _ _ => (pg_name (i := 5) scRule.nd rfl (Or.inl rfl))) (fun _ _ _ _ _ => pts_one (pt_cmpR op_ne (pv 5) (pv 4) (nomark _))) (fun _ _ _ _ _ => (pv 5))) (pe_lst (pa_cons (pv 4) pa_nil))) pa_nil)))) pa_nil))))) pss_nil)
    (pss_one (ps_ret (pe_callTy (k_tuple_of (K := K) rfl) rfl T.tuple bt_tuple (pa_cons (pe_lc (own := [("_law_k", 6)]) (g := gName 6)  (by rfl) scRule.nd (pi_range1 rfl T.range (pa_cons (pe_op op_add (pv 1) pe_int) pa_nil)) (blkOk_by (own := [("_law_k", 6)]) (N := nRule) (sc := defScope sRule) (by decide +kernel)) (fun _ _ _ _ _ => (pg_name (i := 6) scRule.nd rfl (Or.inl rfl))) (fun _ _ _ _ _ => pts_nil) (fun _ _ _ _ _ => (pe_cal c_law_mixed (hr.mono (by decide)) rfl (pa_cons (pv 0) (pa_cons (pv 3) pa_nil))))) pa_nil)))))))), ?_⟩
  -- many, way = [2, 3, 1, 2, 4, 6][pull(urn, 6)], pull(urn, 4)
  refine ⟨(by show 6 ≤ sizeLine; decide), fun l1 hl1 => ⟨_, rfl, c, u, _, T0, rfl, C.ex (Evl.Ex.new hl1), by omega, by decide, by decide, fun r H1 e1 r0 r1 => ?_⟩⟩
  obtain ⟨n, hn, hn1, hn6⟩ : ∃ n : Nat, atI [V.int 2, V.int 3, V.int 1, V.int 2, V.int 4, V.int 6] r = some (.int (n : Int)) ∧ 1 ≤ n ∧ n ≤ 6 := by
    have h6 : r = 0 ∨ r = 1 ∨ r = 2 ∨ r = 3 ∨ r = 4 ∨ r = 5 := by omega
    rcases h6 with rfl | rfl | rfl | rfl | rfl | rfl
    · exact ⟨2, rfl, by omega, by omega⟩
    · exact ⟨3, rfl, by omega, by omega⟩
    · exact ⟨1, rfl, by omega, by omega⟩
    · exact ⟨2, rfl, by omega, by omega⟩
    · exact ⟨4, rfl, by omega, by omega⟩
    · exact ⟨6, rfl, by omega, by omega⟩
  have a1 := e1.sq (upd_same (H := H) (a := l1) (o := .lst [.int 2, .int 3, .int 1, .int 2, .int 4, .int 6]))
  have E1 : Ed P w c u (T0 + 1) H H1 := Ed.pre (Evl.Ex.new hl1) C e1
  refine ⟨l1, _, _, _, rfl, rfl, SqL.of a1, hn, _, rfl, c, u, _, _, rfl, E1.urn, by omega, by decide, by decide, fun y H2 e2 y0 y1 => ⟨_, _, rfl, ?_⟩⟩
  have E2 := E1.trans e2
  clear a1 e1 e2
  -- base = mixed(urn, list(range(many)))
  refine ⟨_, rfl, _, rfl, n, rfl, RgOk.of_le (by decide) (by omega) (by decide) (by omega), fun l2 hl2 => ?_⟩
  rw [rgV_upto, Int.toNat_natCast]
  refine ⟨c, u, l2, upto n, _, rfl, E2.urn.ex (Evl.Ex.new hl2), by omega, .inl (SqL.of upd_same), by rw [upto_len]; omega, fun q ns H4 e4 hq hns => ?_⟩
  rw [upto_len] at e4
  have E4 : Ed P w c u (T0 + 8) H H4 := ((E2.new hl2).trans e4).le (by omega)
  clear E2 e4 E1
  have pq : PrefAt n (.ref q) H4 := ⟨q, ns, rfl, hq, hns⟩
  have hlen : ns.length = n := by rw [hns.length_eq, upto_len]
  have done : ∀ (p : Addr) (xs : List V) (G : Hp), Ed P w c u (T0 + 100) H4 G → G p = some (.tup xs) → xs.length = n + 1 → (∀ v ∈ xs, PrefAt n v G) → Q (.ref p) G := fun p xs G e h1 h2 h3 => by
    obtain ⟨ps, g1, g2⟩ := rule_at hn1 h1 h2 h3
    exact k _ n ps G (E4.trans e) hn6 g1 g2
  have own : ∀ {G : Hp}, Ex H4 G → Ed P w c u (T0 + 100) H4 G := fun e => (E4.urn.of e).le (by omega)
  -- if way == 0
  refine ⟨_, rfl, rfl, _, rfl, ?_⟩
  refine ite2 (fun _ => ?_) (fun _ => ?_)
  · refine ⟨_, rfl, (by show 1 ≤ sizeLine; decide), fun z hz => ⟨_, rfl, _, _, rfl, rfl, z, _, _, rfl, rfl, SqT.of upd_same, (by simp), by omega, by omega, (by simp), fun t ht => ?_⟩⟩
    have ex : Ex H4 (upd (upd H4 z (.tup [.ref q])) t (.tup (List.replicate ((n : Int) + 1).toNat [V.ref q]).flatten)) := (Evl.Ex.new hz).trans (Evl.Ex.new ht)
    refine done t _ _ (own ex) upd_same ?_ fun v hv => ?_
    · simp
    · have : v = .ref q := by
        simp only [List.mem_flatten, List.mem_replicate] at hv
        obtain ⟨l, ⟨_, rfl⟩, hv⟩ := hv
        simpa using hv
      subst this
      exact pq.ex ex
  -- if way == 1
  refine ⟨_, rfl, rfl, _, rfl, ?_⟩
  refine ite2 (fun _ => ?_) (fun _ => ?_)
  · refine ⟨_, rfl, (by show 1 ≤ sizeLine; decide), fun z hz => ⟨_, rfl, n, rfl, by omega, by omega, fun D hD => ?_⟩⟩
    have el : Ex H4 (upd H4 z (.tup [.ref q])) := Evl.Ex.new hz
    have al : upd H4 z (.tup [.ref q]) z = some (.tup [.ref q]) := upd_same
    generalize upd H4 z (.tup [.ref q]) = G2 at el al hD ⊢
    rw [Int.toNat_natCast]
    refine made_range (fun _ v H' => PrefAt n v H') hD (by omega) (fun _ _ _ _ _ _ e m => m.exl e) (fun _ => rfl) (fun i hi G3 e5 Q1 q1 => ?_) (fun ys G4 hy e6 hD4 hm => ?_)
    · have a3 : G3 q = some (.tup (ns.map V.int)) := e5 _ _ (el _ _ hq)
      refine ⟨_, rfl, q, rfl, ⟨_, SqT.of a3⟩, fun D2 hD2 => ?_⟩
      refine filt_tup (fun v => !decide (v = .int (i : Int))) hD2 (SqT.of a3) (by rw [List.length_map]; omega) (fun _ => rfl) (fun x G5 hx e7 Q2 q2 => ?_) (fun x G5 e7 Q2 q2 => ⟨_, rfl, q2⟩) (fun G5 e7 hG5 => ?_)
      · obtain ⟨x, _, rfl⟩ := List.mem_map.mp hx
        exact ⟨_, rfl, _, rfl, rfl, _, rfl, q2⟩
      · rw [filt_int] at hG5
        have fl := List.length_filter_le (fun x => !decide (x = (i : Int))) ns
        refine ⟨_, rfl, (by show 1 ≤ sizeLine; decide), fun b hb => ⟨D2, b, _, _, rfl, rfl, by rw [upd_ne (ne_of_none hG5 hb)]; exact hG5, upd_same, ?_, fun b2 hb2 => ⟨b2, _, rfl, .inl ⟨SqL.of upd_same, fun b3 hb3 => ?_⟩⟩⟩⟩
        · simp only [List.length_map, List.length_cons, List.length_nil]
          exact Nat.le_trans (by omega : _ ≤ 1000) (by decide)
        · exact q1 _ _ (((e7.trans (Evl.Ex.new hb)).trans (Evl.Ex.new hb2)).trans (Evl.Ex.new hb3)) ⟨b3, ns.filter (fun x => !decide (x = (i : Int))) ++ [(i : Int)], rfl, by rw [upd_same, List.map_append]; rfl, end_perm hns (by omega) (by omega)⟩
    · refine ⟨D, _, rfl, .inl ⟨SqL.of hD4, fun t ht => ?_⟩⟩
      refine cat_at (by rw [upd_ne (ne_of_none (e6 _ _ al) ht)]; exact e6 _ _ al) upd_same (by simp [hy]; omega) fun t2 G7 e9 ht2 => ?_
      have ex : Ex G4 G7 := (Evl.Ex.new ht).trans e9
      refine done t2 _ _ (own ((el.trans e6).trans ex)) ht2 (by simp [hy]) fun v hv => ?_
      rcases List.mem_cons.mp hv with rfl | hv
      · exact pq.ex ((el.trans e6).trans ex)
      · obtain ⟨i, hi⟩ := List.mem_iff_getElem?.mp hv
        exact (hm i v hi).ex ex
  -- the rest
  refine ⟨_, rfl, _, _, rfl, rfl, (n : Int) + 1, rfl, by omega, by omega, fun D hD => ?_⟩
  have en : ((n : Int) + 1).toNat = n + 1 := by omega
  rw [en]
  refine made_rangeD (T := T0 + 8) 6 (fun _ v H' => PrefAt n v H') E4.urn hD (by omega) (fun _ _ _ _ e m => m.exd e) (fun _ => rfl) (fun i hi G3 e5 Q1 q1 => ?_) (fun ys G4 hy e6 hD4 hm => ?_)
  · refine ⟨_, rfl, _, rfl, c, u, q, ns, _, rfl, e5.urn, by omega, .inr (SqT.of (e5.tu hq)), by omega, fun b ms G5 e7 hb hms => q1 _ G5 (e7.le (by omega)) ⟨b, ms, rfl, hb, hms.trans hns⟩⟩
  · refine ⟨D, _, rfl, .inl ⟨SqL.of hD4, fun t2 ht2 => ?_⟩⟩
    refine done t2 _ _ ((e6.new ht2).le (by omega)) upd_same hy fun v hv => ?_
    obtain ⟨i, hi⟩ := List.mem_iff_getElem?.mp hv
    exact (hm i v hi).ex (Evl.Ex.new ht2)
def spRow (P : Program) (w : World) : Sp := fun vs H Q _ => ∃ (c l : Addr) (v : V) (u n : Nat) (ps : List (List Int)) (T : Nat), vs = [.ref c, v, .int u] ∧ UrnAt P w H c l T ∧ T ≤ 800000000 ∧ Dv H v (ruleD ps) ∧ RuleOk n ps ∧ n ≤ 100 ∧ 1 ≤ u ∧ u ≤ 1000 ∧
  ∀ (p : Addr) (ns : List Int) H', Ed P w c l (T + 2 + u) H H' → H' p = some (.tup (ns.map V.int)) → 1 ≤ ns.length → ns.length ≤ u → InLanes n ns → Q (.ref p) H'
theorem ok_row {f : Addr} {fd : FuncData} (F : Fun K "_law_row" "_law_row" sRow f fd) (T : Blt mg) (c_law_pull : Cal P w K mg base 1 "_law_pull" ["_law_urn_here", "_law_many"] (spPull P w)) :
    FnOk P w K mg base CX0 2 f fd ["_law_urn_here", "_law_rule_here", "_law_cars"] (spRow P w) := by
  refine F.ok scRow (fun vs H Q E h => ?_) (fun cdv A outer s H vs Q E hr h => ?_)
  · obtain ⟨c, l, v, u, n, ps, T, rfl, _⟩ := h
    rfl
  obtain ⟨c, l, v, u, n, ps, T0, rfl, C, hT, hv, hR, hn, hu1, hu2, k⟩ := h
  obtain ⟨a, xs, rfl, ha, hx, _⟩ := rule_inv hv
  refine ⟨_, (pss_cons (ps_asg (pe_tup (pa_cons (pe_op op_add pe_int (pe_cal c_law_pull (hr.mono (by decide)) rfl (pa_cons (pv 0) (pa_cons (pv 2) pa_nil)))) (pa_cons (pe_op op_sub (pe_callB (k_len (K := K) rfl) rfl T.len bt_len (pa_cons (pv 1) pa_nil)) pe_int) (pa_cons (pe_cal c_law_pull (hr.mono (by decide)) rfl (pa_cons (pv 0) (pa_cons pe_int pa_nil))) pa_nil)))) (pg_tup rfl (pgs_cons (pg_name (i := 3) scRow.nd rfl (Or.inl rfl)) (pgs_cons (pg_name (i := 4) scRow.nd rfl (Or.inr rfl)) (pgs_cons (pg_name (i := 5) scRow.nd rfl (Or.inr rfl)) pgs_nil)))))
    (pss_cons (ps_if (pt_cmpR op_eq (pv 5) pe_int (nomark _)) (pss_one (ps_ret (pe_callTy (k_tuple_of (K := K) rfl) rfl T.tuple bt_tuple (pa_cons (pe_lc (own := [("_law_car", 6)]) (g := gName 6)  (by rfl) scRow.nd (pi_range1 rfl T.range (pa_cons (pv 3) pa_nil)) (blkOk_by (own := [("_law_car", 6)]) (N := nRow) (sc := defScope sRow) (by decide +kernel)) (fun _ _ _ _ _ => (pg_name (i := 6) scRow.nd rfl (Or.inl rfl))) (fun _ _ _ _ _ => pts_nil) (fun _ _ _ _ _ => (pe_op op_modN (pv 6) (pv 4)))) pa_nil)))) pss_nil)
    (pss_one (ps_ret (pe_callTy (k_tuple_of (K := K) rfl) rfl T.tuple bt_tuple (pa_cons (pe_lc (own := [("_law_car", 6)]) (g := gName 6)  (by rfl) scRow.nd (pi_range1 rfl T.range (pa_cons (pv 3) pa_nil)) (blkOk_by (own := [("_law_car", 6)]) (N := nRow) (sc := defScope sRow) (by decide +kernel)) (fun _ _ _ _ _ => (pg_name (i := 6) scRow.nd rfl (Or.inl rfl))) (fun _ _ _ _ _ => pts_nil) (fun _ _ _ _ _ => (pe_cal c_law_pull (hr.mono (by decide)) rfl (pa_cons (pv 0) (pa_cons (pe_ix (kx_list (K := K) rfl) (pe_lst (pa_cons (pv 4) (pa_cons (pe_callB (call_min2 rfl) rfl T.min bt_min (pa_cons pe_int (pa_cons (pv 4) pa_nil))) pa_nil))) (pe_callTy call_int1 rfl T.int bt_int (pa_cons (pe_and (pe_cmpR op_eq (pv 5) pe_int (nomark _)) (pe_one (pe_cmpR op_gt (pv 6) pe_int (nomark _)))) pa_nil)) (fun _ _ => rfl)) pa_nil))))) pa_nil)))))), ?_⟩
  have hn1 := hR.1
  have hxl : xs.length = n + 1 := hx.trans hR.2.1
  -- many, lanes, way
  refine ⟨_, rfl, _, rfl, c, l, _, T0, rfl, C, by omega, by omega, by omega, fun r H1 e1 r0 r1 => ⟨_, _, rfl, rfl, _, rfl, a, _, rfl, .inr (SqT.of (e1.tu ha)), _, _, rfl, rfl, _, rfl, c, l, _, _, rfl, e1.urn, by omega, by decide, by decide, fun y H2 e2 y0 y1 => ⟨(by show 3 ≤ sizeLine; decide), fun p hp => ⟨p, _, rfl, SqT.of upd_same, rfl, _, _, rfl, _, _, rfl, _, _, rfl, rfl, ?_⟩⟩⟩⟩
  obtain ⟨m, hm⟩ : ∃ m : Nat, 1 + r = (m : Int) := ⟨(1 + r).toNat, by omega⟩
  have hv1 : (fun i j : Int => V.int (i + j)) 1 r = V.int (m : Int) := congrArg V.int hm
  have hv2 : (fun i j : Int => V.int (i - j)) (xs.length : Int) 1 = V.int (n : Int) := congrArg V.int (by omega)
  rw [hv1, hv2]
  have e3 : Ed P w c l (T0 + 2) H (upd H2 p (.tup [.int m, .int n, .int y])) := (e1.trans e2).new hp
  generalize upd H2 p (.tup [.int m, .int n, .int y]) = G at e3 ⊢
  have done : ∀ (ys : List V) (D : Addr) (G' : Hp), Ed P w c l (T0 + 2 + u) H G' → G' D = some (.lst ys) → ys.length = m → (∀ (i : Nat) (v : V), ys[i]? = some v → ∃ z, v = .int z ∧ 0 ≤ z ∧ z < n) → rTupOf K [.ref D] G' Q := fun ys D G' e hD hl hm2 => by
    obtain ⟨cs, rfl⟩ := ints_of (ys := ys) fun i v hi => let ⟨z, h1, _⟩ := hm2 i v hi; ⟨z, h1⟩
    rw [List.length_map] at hl
    refine ⟨D, _, rfl, .inl ⟨SqL.of hD, fun l2 hl2 => k l2 cs _ (e.new hl2) upd_same (by omega) (by omega) fun x hx => ?_⟩⟩
    obtain ⟨i, hi⟩ := List.mem_iff_getElem?.mp hx
    obtain ⟨z, h1, h2⟩ := hm2 i (.int x) (by rw [List.getElem?_map, hi]; rfl)
    cases h1
    exact h2
  -- if way == 0
  refine ⟨_, rfl, rfl, _, rfl, ?_⟩
  refine ite2 (fun _ => ?_) (fun hy => ?_)
  · refine ⟨_, rfl, m, rfl, by omega, by omega, fun D hD => ?_⟩
    rw [Int.toNat_natCast]
    refine made_range (fun _ v _ => ∃ z, v = .int z ∧ 0 ≤ z ∧ z < n) hD (by omega) (fun _ _ _ _ _ _ _ q => q) (fun _ => rfl) (fun i hi G3 e5 Q1 q1 => ?_) (fun ys G4 hy e6 hD4 hq => done ys D G4 ((e3.ex e6).le (by omega)) hD4 hy hq)
    exact ⟨_, rfl, _, rfl, _, _, rfl, rfl, by omega, q1 _ G3 (Evl.Ex.refl _) ⟨_, rfl, Int.fmod_nonneg_of_pos _ (by omega), Int.fmod_lt_of_pos _ (by omega)⟩⟩
  -- the rest
  refine ⟨_, rfl, m, rfl, by omega, by omega, fun D hD => ?_⟩
  rw [Int.toNat_natCast]
  refine made_rangeD (T := T0 + 2) 1 (fun _ v _ => ∃ z, v = .int z ∧ 0 ≤ z ∧ z < n) e3.urn hD (by omega) (fun _ _ _ _ _ q => q) (fun _ => rfl) (fun i hi G3 e5 Q1 q1 => ?_) (fun ys G4 hy e6 hD4 hq => done ys D G4 ((e3.trans e6).le (by omega)) hD4 hy hq)
  have hat : ∀ b : Bool, ∃ t : Nat, atI [V.int (n : Int), V.int (if (n : Int) < 2 then (n : Int) else 2)] (if b = true then 1 else 0) = some (.int (t : Int)) ∧ 1 ≤ t ∧ t ≤ n := fun b => by
    cases b with
    | false => exact ⟨n, rfl, by omega, by omega⟩
    | true =>
      by_cases h2 : (n : Int) < 2
      · rw [if_pos h2]; exact ⟨n, rfl, by omega, by omega⟩
      · rw [if_neg h2]; exact ⟨2, rfl, by omega, by omega⟩
  have pull : ∀ (l2 : Addr) (G4 : Hp) (b : Bool), Ex G3 G4 → G4 l2 = some (.lst [V.int (n : Int), V.int (if (n : Int) < 2 then (n : Int) else 2)]) → rIxL K (.ref l2) (.int (if b = true then 1 else 0)) G4 fun v H1 => tNil [] H1 fun vs H2 => spPull P w ([.ref c, v] ++ vs) H2 Q1 E0 := fun l2 G4 b e8 h8 => by
    obtain ⟨t, ht, ht1, ht2⟩ := hat b
    have C4 := e5.urn.ex e8
    exact ⟨l2, _, _, _, rfl, rfl, SqL.of h8, ht, c, l, _, _, rfl, C4, by omega, by omega, by omega, fun z G5 e7 z0 z1 => q1 _ G5 ((Ed.pre e8 e5.urn e7).le (by omega)) ⟨z, rfl, z0, by omega⟩⟩
  refine ⟨_, rfl, _, rfl, _, rfl, _, _, rfl, (by show 2 ≤ sizeLine; decide), fun l2 hl2 => ⟨_, rfl, rfl, _, rfl, ?_⟩⟩
  have e8 : Ex G3 (upd G3 l2 (.lst [V.int (n : Int), V.int (if (n : Int) < 2 then (n : Int) else 2)])) := Evl.Ex.new hl2
  refine ite2 (fun _ => ?_) (fun _ => ?_)
  · exact ⟨_, rfl, _, _, rfl, rfl, .inr ⟨_, rfl, pull _ _ _ e8 upd_same⟩⟩
  · exact .inr ⟨_, rfl, pull _ _ _ e8 upd_same⟩
end
end Lr

namespace Lr
open PySem L2
def oddD : List PyData := [.none, .bool true, .bool false, .int (-1), .int 0, .int 1, .int 40, .int (10 ^ 39), .str "", .str "a", .str "ap", .tuple [], .list [], .dict [], .tuple [.int 0], .list [.int 0], .tuple [.int 0, .int 1], .dict [(.str "a", .int 0)]]
theorem merge_one : mergeK [] [((Sum.inr "a" : Key), V.int 0)] = [((Sum.inr "a" : Key), V.int 0)] := by simp [mergeK, putK]
theorem odd_sh : ∀ d ∈ oddD, Sh 60 2 d := by
  have h : ∀ d ∈ oddD, (d.showable && decide (d.shown.length ≤ 60) && decide (d.depth ≤ 2)) = true := by decide +kernel
  intro d hd
  have q := h d hd
  simp only [Bool.and_eq_true, decide_eq_true_eq] at q
  exact ⟨q.1.1, q.1.2, q.2⟩
abbrev sOdd : Stmt := topS 12
abbrev nOdd : List Str := ["_law_urn_here", "_law_some"]
theorem scOdd : FnScope nOdd ["_law_urn_here"] (defScope sOdd) :=
  ⟨rfl, rfl, rfl, by decide +kernel, rfl, by decide +kernel, by decide +kernel⟩
section
variable {P : Program} {w : World} {K : PySem.W.Frag} {mg : Str → Option Value} {base : Heap}
def spOdd (P : Program) (w : World) : Sp := fun vs H Q _ => ∃ (c l : Addr) (T : Nat), vs = [.ref c] ∧ UrnAt P w H c l T ∧ T ≤ 900000000 ∧ ∀ v d H', Ed P w c l (T + 1) H H' → Dv (mix H0 H H') v d → d ∈ oddD → Q v H'
theorem ok_odd {f : Addr} {fd : FuncData} (F : Fun K "_law_odd" "_law_odd" sOdd f fd) (T : Blt mg) (c_law_pull : Cal P w K mg base 1 "_law_pull" ["_law_urn_here", "_law_many"] (spPull P w)) :
    FnOk P w K mg base CX0 2 f fd ["_law_urn_here"] (spOdd P w) := by
  refine F.ok scOdd (fun vs H Q E h => ?_) (fun cdv A outer s H vs Q E hr h => ?_)
  · obtain ⟨c, l, T, rfl, _⟩ := h
    rfl
  obtain ⟨c, l, T0, rfl, C, hT, k⟩ := h
  refine ⟨_, (pss_cons (ps_set (i := 1) scOdd.nd rfl (Or.inl rfl) (pe_lst (pa_cons pe_non (pa_cons pe_bl (pa_cons pe_bl (pa_cons (pe_un un_neg pe_int) (pa_cons pe_int (pa_cons pe_int (pa_cons pe_int (pa_cons (pe_op op_pow pe_int pe_int) (pa_cons pe_str (pa_cons pe_str (pa_cons pe_str (pa_cons (pe_tup pa_nil) (pa_cons (pe_lst pa_nil) (pa_cons pe_dnewK (pa_cons (pe_tup (pa_cons pe_int pa_nil)) (pa_cons (pe_lst (pa_cons pe_int pa_nil)) (pa_cons (pe_tup (pa_cons pe_int (pa_cons pe_int pa_nil))) (pa_cons (pe_disp (pps_cons pe_str pe_int pps_nil) (by rfl) (by rfl) (fun z => by cases z) (by decide)) pa_nil))))))))))))))))))))
    (pss_one (ps_ret (pe_ix (kx_list (K := K) rfl) (pv 1) (pe_cal c_law_pull (hr.mono (by decide)) rfl (pa_cons (pv 0) (pa_cons pe_int pa_nil))) (fun _ _ => rfl))))), ?_⟩
  have z0 : 0 ≤ sizeLine := by decide
  have z1 : 1 ≤ sizeLine := by decide
  have z2 : 2 ≤ sizeLine := by decide
  refine ⟨1, rfl, _, _, rfl, rfl, ⟨by decide, by decide, by decide⟩, z0, fun p1 h1 => ⟨z0, fun p2 h2 => fun p3 h3 => ⟨z1, fun p4 h4 => ⟨z1, fun p5 h5 => ⟨z2, fun p6 h6 => fun p7 h7 => ⟨upd_same, [((Sum.inr "a" : Key), V.int 0)], rfl, (by show 1 ≤ 15; decide), (by show 18 ≤ sizeLine; decide), fun l1 hl1 => ?_⟩⟩⟩⟩⟩⟩
  rw [merge_one] at *
  have e1 : Ex H (upd H p1 (.tup [])) := Evl.Ex.new h1
  have e2 := e1.trans (Evl.Ex.new h2 (o := .lst []))
  have e3 := e2.trans (Evl.Ex.new h3 (o := .dK []))
  have e4 := e3.trans (Evl.Ex.new h4 (o := .tup [.int 0]))
  have e5 := e4.trans (Evl.Ex.new h5 (o := .lst [.int 0]))
  have e6 := e5.trans (Evl.Ex.new h6 (o := .tup [.int 0, .int 1]))
  have y7 := Evl.Ex.mut (o := .dK [((Sum.inr "a" : Key), V.int 0)]) (Evl.Ex.new h7 (o := .dK [])) h7
  have e7 := e6.trans y7
  have n1 : H p1 = none := h1
  have n2 : H p2 = none := Evl.fresh_back e1 h2
  have n3 : H p3 = none := Evl.fresh_back e2 h3
  have n4 : H p4 = none := Evl.fresh_back e3 h4
  have n5 : H p5 = none := Evl.fresh_back e4 h5
  have n6 : H p6 = none := Evl.fresh_back e5 h6
  have n7 : H p7 = none := Evl.fresh_back e6 h7
  have f6 := (Evl.Ex.new h6 (o := .tup [.int 0, .int 1])).trans y7
  have f5 := (Evl.Ex.new h5 (o := .lst [.int 0])).trans f6
  have f4 := (Evl.Ex.new h4 (o := .tup [.int 0])).trans f5
  have f3 := (Evl.Ex.new h3 (o := .dK [])).trans f4
  have f2 := (Evl.Ex.new h2 (o := .lst [])).trans f3
  have a1 := f2 _ _ (upd_same (H := H) (a := p1) (o := .tup []))
  have a2 := f3 _ _ (upd_same (a := p2) (o := .lst []))
  have a3 := f4 _ _ (upd_same (a := p3) (o := .dK []))
  have a4 := f5 _ _ (upd_same (a := p4) (o := .tup [.int 0]))
  have a5 := f6 _ _ (upd_same (a := p5) (o := .lst [.int 0]))
  have a6 := y7 _ _ (upd_same (a := p6) (o := .tup [.int 0, .int 1]))
  have a7 : upd (upd (upd (upd (upd (upd (upd (upd H p1 (.tup [])) p2 (.lst [])) p3 (.dK [])) p4 (.tup [.int 0])) p5 (.lst [.int 0])) p6 (.tup [.int 0, .int 1])) p7 (.dK [])) p7 (.dK [((Sum.inr "a" : Key), V.int 0)]) p7 = some (.dK [((Sum.inr "a" : Key), V.int 0)]) := upd_same
  generalize upd (upd (upd (upd (upd (upd (upd (upd H p1 (.tup [])) p2 (.lst [])) p3 (.dK [])) p4 (.tup [.int 0])) p5 (.lst [.int 0])) p6 (.tup [.int 0, .int 1])) p7 (.dK [])) p7 (.dK [((Sum.inr "a" : Key), V.int 0)]) = G1 at *
  clear f2 f3 f4 f5 f6 e1 e2 e3 e4 e5 e6 y7
  generalize hL : [V.non, V.bl true, V.bl false, V.int (-1), V.int 0, V.int 1, V.int 40, V.int (10 ^ (39 : Int).toNat), V.str "", V.str "a", V.str "ap", V.ref p1, V.ref p2, V.ref p3, V.ref p4, V.ref p5, V.ref p6, V.ref p7] = L1 at *
  have x0 : Ex G1 (upd G1 l1 (.lst L1)) := Evl.Ex.new hl1
  have al : upd G1 l1 (.lst L1) l1 = some (.lst L1) := upd_same
  generalize upd G1 l1 (.lst L1) = G2 at *
  have ll : L1.length = 18 := by rw [← hL]; rfl
  refine ⟨_, rfl, _, rfl, c, l, _, T0, rfl, C.ex (e7.trans x0), by omega, by decide, by decide, fun r H' e r0 r1 => ?_⟩
  obtain ⟨v, hv, hat, hi⟩ := at_in (xs := L1) r0 (by rw [ll]; exact r1)
  refine ⟨l1, _, _, _, rfl, rfl, SqL.of (e.sq al), hat, ?_⟩
  have eG : Exn G1 H' := (Exn.of x0).trans e.keep
  have all : DvAll (mix H0 H H') L1 oddD := by
    rw [← hL]
    have t {p : Addr} {o : HO} (n : H p = none) (hp : H' p = some o) : mix H0 H H' p = some o := mix_new n hp
    exact .cons .non (.cons (.bl _) (.cons (.bl _) (.cons (.int _) (.cons (.int _) (.cons (.int _) (.cons (.int _) (.cons (.int _) (.cons (.str _) (.cons (.str _) (.cons (.str _)
      (.cons (.tup (t n1 (eG _ _ rfl a1)) .nil) (.cons (.lst (t n2 (eG _ _ rfl a2)) .nil) (.cons (.dic (t n3 (eG _ _ rfl a3)) .nil) (.cons (.tup (t n4 (eG _ _ rfl a4)) (.cons (.int _) .nil)) (.cons (.lst (t n5 (eG _ _ rfl a5)) (.cons (.int _) .nil))
      (.cons (.tup (t n6 (eG _ _ rfl a6)) (.cons (.int _) (.cons (.int _) .nil))) (.cons (.dic (t n7 (eG _ _ rfl a7)) (.cons (k := Sum.inr "a") (.int _) .nil)) .nil)))))))))))))))))
  obtain ⟨d, hd, hdv⟩ := all.get hi
  exact k v d H' (Ed.pre (e7.trans x0) C e) hdv (List.mem_of_getElem? hd)
end
end Lr

namespace Lr
open PySem L2
theorem digits_sh : ∀ i : Int, 0 ≤ i → i < 40 → Sh 60 2 (.str (toString i : String)) := by
  have h : ∀ k ∈ List.range 40, (let d := PyData.str (toString (k : Int) : String); d.showable && decide (d.shown.length ≤ 60) && decide (d.depth ≤ 2)) = true := by decide +kernel
  intro i h0 h1
  have q := h i.toNat (by rw [List.mem_range]; omega)
  have e : ((i.toNat : Nat) : Int) = i := by omega
  rw [e] at q
  simp only [Bool.and_eq_true, decide_eq_true_eq] at q
  exact ⟨q.1.1, q.1.2, q.2⟩
abbrev sBent : Stmt := topS 13
abbrev nBent : List Str := ["_law_urn_here", "_law_order", "_law_at", "_law_other", "_law_some", "_law_odd_here", "_law_head", "_law_tail"]
theorem scBent : FnScope nBent ["_law_urn_here", "_law_order"] (defScope sBent) :=
  ⟨rfl, rfl, rfl, by decide +kernel, rfl, by decide +kernel, by decide +kernel⟩
section
variable {P : Program} {w : World} {K : PySem.W.Frag} {mg : Str → Option Value} {base : Heap}
def spBent (P : Program) (w : World) : Sp := fun vs H Q _ => ∃ (c l a : Addr) (B : Hp) (ns : List Int) (T : Nat), vs = [.ref c, .ref a] ∧ UrnAt P w H c l T ∧ T ≤ 800000000 ∧ Ex B H ∧ B a = some (.tup (ns.map V.int)) ∧ 1 ≤ ns.length ∧ ns.length ≤ 40 ∧ (∀ x ∈ ns, 0 ≤ x ∧ x < 40) ∧
  ∀ v H', Ed P w c l (T + 5) H H' → Da 10000 5 (mix B H H') v → Q v H'
theorem ok_bent {f : Addr} {fd : FuncData} (F : Fun K "_law_bent" "_law_bent" sBent f fd) (T : Blt mg) (c_law_pull : Cal P w K mg base 1 "_law_pull" ["_law_urn_here", "_law_many"] (spPull P w))
    (c_law_odd : Cal P w K mg base 2 "_law_odd" ["_law_urn_here"] (spOdd P w)) : FnOk P w K mg base CX0 3 f fd ["_law_urn_here", "_law_order"] (spBent P w) := by
  refine F.ok scBent (fun vs H Q E h => ?_) (fun cdv A outer s H vs Q E hr h => ?_)
  · obtain ⟨c, l, a, B, ns, T, rfl, _⟩ := h
    rfl
  obtain ⟨c, u, a, B, ns, T0, rfl, C, hT, hB, haB, n1, n2, hin, kk⟩ := h
  have ha := hB _ _ haB
  have tv : TA 60 2 40 B (.ref a) := ⟨ns.map .int, .tup haB (dv_ints _ ns), fun e he => by
    obtain ⟨x, hx, rfl⟩ := List.mem_map.mp he
    have := hin x hx
    exact (int_sh (by omega)).mono (by decide) (by decide), by rw [List.length_map]; exact n2⟩
  have nl : (ns.map V.int).length = ns.length := List.length_map ..
  refine ⟨_, (pss_cons (ps_par (i := 2) (j := 3) rfl scBent.nd rfl rfl (by decide) rfl rfl (pa_cons (pe_cal c_law_pull (hr.mono (by decide)) rfl (pa_cons (pv 0) (pa_cons (pe_callB (k_len (K := K) rfl) rfl T.len bt_len (pa_cons (pv 1) pa_nil)) pa_nil))) (pa_cons (pe_cal c_law_pull (hr.mono (by decide)) rfl (pa_cons (pv 0) (pa_cons (pe_callB (k_len (K := K) rfl) rfl T.len bt_len (pa_cons (pv 1) pa_nil)) pa_nil))) pa_nil)) rfl)
    (pss_cons (ps_set (i := 4) scBent.nd rfl (Or.inl rfl) (pe_lst (pa_cons (pe_cal c_law_odd (hr.mono (by decide)) rfl (pa_cons (pv 0) pa_nil)) (pa_cons (pv 3) (pa_cons (pe_callB (k_len (K := K) rfl) rfl T.len bt_len (pa_cons (pv 1) pa_nil)) (pa_cons (pe_un un_neg pe_int) (pa_cons pe_bl (pa_cons pe_bl (pa_cons (pe_callTy call_str_int rfl T.str bt_str (pa_cons (pe_ix (kx_tup (K := K) rfl) (pv 1) (pv 2) (fun _ _ => rfl)) pa_nil)) (pa_cons (pe_tup (pa_cons (pe_ix (kx_tup (K := K) rfl) (pv 1) (pv 2) (fun _ _ => rfl)) pa_nil)) pa_nil))))))))))
    (pss_cons (ps_par3 (i := 5) (j := 6) (l := 7) rfl scBent.nd rfl rfl rfl (by decide) (by decide) (by decide) rfl rfl rfl (pa_cons (pe_ix (kx_list (K := K) rfl) (pv 4) (pe_cal c_law_pull (hr.mono (by decide)) rfl (pa_cons (pv 0) (pa_cons pe_int pa_nil))) (fun _ _ => rfl)) (pa_cons (pe_slice (ks_tup (K := K) rfl) (pv 1) po_none (po_some (pv 2))) (pa_cons (pe_slice (ks_tup (K := K) rfl) (pv 1) (po_some (pv 2)) po_none) pa_nil))) rfl)
    (pss_cons (ps_set (i := 4) scBent.nd rfl (Or.inl rfl) (pe_lst (pa_cons (pe_op (ko_catT (K := K) rfl) (pe_op (ko_catT (K := K) rfl) (pv 6) (pe_tup (pa_cons (pv 5) pa_nil))) (pe_slice (ks_tup (K := K) rfl) (pv 7) (po_some pe_int) po_none)) (pa_cons (pe_op (ko_catT (K := K) rfl) (pv 6) (pe_slice (ks_tup (K := K) rfl) (pv 7) (po_some pe_int) po_none)) (pa_cons (pe_op (ko_catT (K := K) rfl) (pv 1) (pe_tup (pa_cons (pv 5) pa_nil))) (pa_cons (pe_revT (pv 1)) (pa_cons (pe_callTy (k_list_of (K := K) rfl) rfl T.list bt_list (pa_cons (pv 1) pa_nil)) pa_nil)))))))
    (pss_cons (ps_set (i := 4) scBent.nd rfl (Or.inl rfl) (pe_op op_cat (pv 4) (pe_lst (pa_cons (pe_op (ko_catT (K := K) rfl) (pe_op (ko_catT (K := K) rfl) (pv 6) (pe_slice (ks_tup (K := K) rfl) (pv 7) po_none (po_some pe_int))) (pv 7)) (pa_cons (pe_tup (pa_cons (pv 1) pa_nil)) (pa_cons (pe_op (ko_catT (K := K) rfl) (pv 7) (pv 6)) (pa_cons (pv 5) pa_nil)))))))
    (pss_one (ps_ret (pe_ix (kx_list (K := K) rfl) (pv 4) (pe_cal c_law_pull (hr.mono (by decide)) rfl (pa_cons (pv 0) (pa_cons pe_int pa_nil))) (fun _ _ => rfl))))))))), ?_⟩
  have z1 : 1 ≤ sizeLine := by decide
  -- at, other
  refine ⟨_, rfl, _, rfl, a, _, rfl, .inr (SqT.of ha), c, u, _, T0, rfl, C, by omega, by omega, by omega, fun at1 H1 e1 r0 r1 => ⟨_, rfl, _, rfl, a, _, rfl, .inr (SqT.of (e1.tu ha)), c, u, _, _, rfl, e1.urn, by omega, by omega, by omega, fun ot H2 e2 o0 o1 => ⟨_, _, rfl, ?_⟩⟩⟩
  rw [nl] at r1 o1
  have E2 := e1.trans e2
  clear e1 e2
  obtain ⟨va, hva, hat, hxi⟩ := at_in (xs := ns.map V.int) r0 (by rw [nl]; exact r1)
  obtain ⟨x, hx, rfl⟩ := List.mem_map.mp hva
  have hx40 := hin x hx
  -- some
  refine ⟨_, rfl, c, u, _, rfl, E2.urn, by omega, fun v0 d0 H3 e3 hv0 hd0 => ?_⟩
  have E3 := E2.trans e3
  have hv0 : Dv (mix B H H3) v0 d0 := hv0.exn fun y o z h => by
    unfold mix at h ⊢
    by_cases q : H2 y = none
    · rw [if_pos q] at h
      rw [if_pos (E2.back y q)]
      exact h
    · rw [if_neg q] at h
      cases h
  clear e3
  have aH := E3.tu ha
  refine ⟨_, rfl, _, rfl, a, _, rfl, .inr (SqT.of aH), 1, rfl, _, rfl, _, rfl, a, _, _, _, rfl, rfl, SqT.of aH, hat, _, rfl, ?_, _, rfl, _, rfl, a, _, _, _, rfl, rfl, SqT.of aH, hat, z1, fun p5 hp5 => ⟨(by show 8 ≤ sizeLine; decide), fun l5 hl5 => ?_⟩⟩
  · have h1 : x.natAbs < 2 ^ 40 := by omega
    have := PySem.Flt.log2_lt_of (k := 40) (by decide) h1
    omega
  have e5 := Evl.Ex.new hp5 (o := .tup [.int x])
  have d5 : Dv (mix B H (upd H3 p5 (.tup [.int x]))) (.ref p5) (.tuple [.int x]) := dm_tup E3.es hp5 (.cons (.int _) .nil)
  have hv0 := hv0.exn (mix_mono (Exn.of e5))
  have E5 := E3.ex e5
  generalize upd H3 p5 (.tup [.int x]) = H5 at hl5 d5 hv0 E5 ⊢
  clear e5
  generalize hL : [v0, V.int ot, V.int ((ns.map V.int).length : Int), V.int (-1), V.bl true, V.bl false, V.str (toString x : String), V.ref p5] = L at *
  have E6 := E5.new hl5 (o := .lst L)
  have aL : upd H5 l5 (.lst L) l5 = some (.lst L) := upd_same
  have DL : ∀ v ∈ L, Da 60 2 (mix B H (upd H5 l5 (.lst L))) v := fun v hv => by
    rw [← hL] at hv
    have mm := mix_mono (B0 := B) (H0 := H) (Exn.of (Evl.Ex.new hl5 (o := .lst L)))
    have small : ∀ i : Int, i.natAbs < 10 ^ 12 → Sh 60 2 (.int i) := fun i hi => (int_sh hi).mono (by decide) (by decide)
    simp only [List.mem_cons, List.not_mem_nil, or_false] at hv
    rcases hv with rfl | rfl | rfl | rfl | rfl | rfl | rfl | rfl
    · exact ⟨_, hv0.exn mm, odd_sh _ hd0⟩
    · exact ⟨_, .int _, small _ (by omega)⟩
    · exact ⟨_, .int _, small _ (by rw [nl]; omega)⟩
    · exact ⟨_, .int _, small _ (by decide)⟩
    · exact ⟨_, .bl _, (bool_sh _).mono (by decide) (by decide)⟩
    · exact ⟨_, .bl _, (bool_sh _).mono (by decide) (by decide)⟩
    · exact ⟨_, .str _, digits_sh x hx40.1 hx40.2⟩
    · exact ⟨_, d5.exn mm, (sh_tup (m := 20) (k := 0) (c := 1) (es := [.int x]) (fun e he => by rcases List.mem_singleton.mp he with rfl; exact int_sh (by omega)) (Nat.le_refl 1)).mono (by decide) (by decide)⟩
  have ll : L.length = 8 := by rw [← hL]; rfl
  generalize upd H5 l5 (.lst L) = H6 at E6 aL DL ⊢
  clear hL hv0 d5 hl5 E5 E3 E2 aH
  -- odd_here, head, tail
  refine ⟨_, rfl, _, rfl, c, u, _, _, rfl, E6.urn, by omega, by decide, by decide, fun r7 H7 e7 q0 q1 => ?_⟩
  obtain ⟨oh, hoh, hat7, _⟩ := at_in (xs := L) q0 (by rw [ll]; exact q1)
  refine ⟨l5, _, _, _, rfl, rfl, SqL.of (e7.sq aL), hat7, ?_⟩
  obtain ⟨dn, hdn, sn⟩ := (DL oh hoh).mono (mix_mono e7.keep)
  have E7 := E6.trans e7
  clear DL e7 aL E6 hat7 hoh
  have tvm : ∀ {G : Hp}, TA 60 2 40 (mix B H G) (.ref a) := tv.mono (Exn.of (mix_base hB))
  refine ⟨_, rfl, _, rfl, at1, rfl, sl_ta hB E7.es tvm fun hd H8 e8 th => ⟨_, rfl, _, rfl, at1, rfl, np (sl_ta hB (E7.ex e8).es tvm fun tl H9 e9 tt => ⟨_, _, _, rfl, ?_⟩)⟩⟩
  have E9 := (E7.ex e8).ex e9
  have th := th.mono (mix_mono (Exn.of e9))
  have hdn := hdn.exn (mix_mono (Exn.of (e8.trans e9)))
  clear E7 e8 e9
  have S : ∀ {G : Hp}, Ex H9 G → Es H G := fun e => (E9.ex e).es
  have up : ∀ {G G' : Hp}, Ex G G' → Exn (mix B H G) (mix B H G') := fun e => mix_mono (Exn.of e)
  have R9 := Evl.Ex.refl H9
  -- head + (odd_here,) + tail[1:]
  refine ⟨_, rfl, _, rfl, z1, fun p1 hp1 => ?_⟩
  have g1 := Evl.Ex.new hp1 (o := .tup [oh])
  refine cat_ta hB (S g1) (th.mono (up g1)) (tup1_ta (S R9) hdn sn hp1) (by decide) fun x1 G1 b1 u1 => ⟨_, rfl, 1, rfl, np ?_⟩
  have g2 := g1.trans b1
  refine sl_ta hB (S g2) (tt.mono (up g2)) fun x2 G2 b2 u2 => ?_
  have g3 := g2.trans b2
  refine cat_ta hB (S g3) (u1.mono (up b2)) u2 (by decide) fun y1 G3 b3 s1 => ⟨_, rfl, _, rfl, 1, rfl, np ?_⟩
  have g4 := g3.trans b3
  have D1 : Da 10000 5 (mix B H G3) y1 := s1.da (by decide) (by decide)
  clear u1 u2 s1 b1 b2 b3 g1 g2 g3 hp1
  -- head + tail[1:]
  refine sl_ta hB (S g4) (tt.mono (up g4)) fun x3 G4 b4 u3 => ?_
  have g5 := g4.trans b4
  refine cat_ta hB (S g5) (th.mono (up g5)) u3 (by decide) fun y2 G5 b5 s2 => ⟨_, rfl, _, rfl, z1, fun p2 hp2 => ?_⟩
  have g6 := g5.trans b5
  have D2 : Da 10000 5 (mix B H G5) y2 := s2.da (by decide) (by decide)
  have D1 := D1.mono (up (b4.trans b5))
  clear b4 b5 u3 s2 g4 g5
  -- order + (odd_here,)
  have b6 := Evl.Ex.new hp2 (o := .tup [oh])
  refine cat_ta hB (S (g6.trans b6)) tvm (tup1_ta (S g6) (hdn.exn (up g6)) sn hp2) (by decide) fun y3 G6 b7 s3 => ⟨_, rfl, ?_⟩
  have g7 := (g6.trans b6).trans b7
  have D3 : Da 10000 5 (mix B H G6) y3 := s3.da (by decide) (by decide)
  have D1 := D1.mono (up (b6.trans b7))
  have D2 := D2.mono (up (b6.trans b7))
  clear b6 b7 s3 g6 hp2
  -- order[::-1]
  obtain ⟨a7, xs7, ea7, ha7, rv⟩ := rev_ta hB (S g7) (tvm (G := G6))
  cases ea7
  refine ⟨a, xs7, rfl, ha7, fun f1 k1 y4 hk1 hy4 => ?_⟩
  have D4 : Da 10000 5 _ _ := (rv f1 k1 y4 hk1 hy4).da (by decide) (by decide)
  have b8 := Evl.Ex.new hy4 (o := .tup ((List.range k1).filterMap fun j => xs7[f1 j]?))
  generalize upd G6 y4 (.tup ((List.range k1).filterMap fun j => xs7[f1 j]?)) = G7 at D4 b8 ⊢
  have g8 := g7.trans b8
  have D1 := D1.mono (up b8)
  have D2 := D2.mono (up b8)
  have D3 := D3.mono (up b8)
  clear b8 rv ha7
  -- list(order)
  refine ⟨_, rfl, tn (lst_ta hB (S g8) tvm fun y5 G8 b9 D5 => ⟨(by show 5 ≤ sizeLine; decide), fun l8 hl8 => ?_⟩)⟩
  have D5 : Da 10000 5 (mix B H G8) y5 := by
    obtain ⟨d, q1, q2⟩ := D5
    exact ⟨d, q1, q2.mono (by decide) (by decide)⟩
  have b10 := Evl.Ex.new hl8 (o := .lst [y1, y2, y3, .ref y4, y5])
  have al8 : upd G8 l8 (.lst [y1, y2, y3, .ref y4, y5]) l8 = some (.lst [y1, y2, y3, .ref y4, y5]) := upd_same
  have g9 := (g8.trans b9).trans b10
  have D1 := D1.mono (up (b9.trans b10))
  have D2 := D2.mono (up (b9.trans b10))
  have D3 := D3.mono (up (b9.trans b10))
  have D4 := D4.mono (up (b9.trans b10))
  have D5 := D5.mono (up b10)
  generalize upd G8 l8 (.lst [y1, y2, y3, .ref y4, y5]) = G9 at al8 g9 D1 D2 D3 D4 D5 ⊢
  clear b9 b10 g7 g8
  -- some + [..]
  refine ⟨_, rfl, _, rfl, _, rfl, 1, rfl, ?_⟩
  refine sl_ta hB (S g9) (tt.mono (up g9)) fun x4 G10 b11 u4 => ?_
  have g10 := g9.trans b11
  refine cat_ta hB (S g10) (th.mono (up g10)) u4 (by decide) fun x5 G11 b12 u5 => ⟨_, rfl, ?_⟩
  have g11 := g10.trans b12
  refine cat_ta hB (S g11) u5 (tt.mono (up g11)) (by decide) fun y6 G12 b13 s6 => ⟨_, rfl, z1, fun p3 hp3 => ?_⟩
  have g12 := g11.trans b13
  have D6 : Da 10000 5 (mix B H G12) y6 := s6.da (by decide) (by decide)
  have b14 := Evl.Ex.new hp3 (o := .tup [.ref a])
  have D7 : Da 10000 5 (mix B H (upd G12 p3 (.tup [.ref a]))) (.ref p3) := by
    obtain ⟨d, q1, q2⟩ := (tvm (G := G12)).da (m' := 3000) (k' := 3) (by decide) (by decide)
    exact (tup1_ta (S g12) q1 q2 hp3).da (by decide) (by decide)
  refine ⟨_, rfl, _, rfl, ?_⟩
  refine cat_ta hB (S (g12.trans b14)) (tt.mono (up (g12.trans b14))) (th.mono (up (g12.trans b14))) (by decide) fun y8 G13 b15 s8 => ⟨_, rfl, (by show 4 ≤ sizeLine; decide), fun l9 hl9 => ?_⟩
  have D8 : Da 10000 5 (mix B H G13) y8 := s8.da (by decide) (by decide)
  have b16 := Evl.Ex.new hl9 (o := .lst [y6, .ref p3, y8, oh])
  have f9 : Ex G9 G13 := (((b11.trans b12).trans b13).trans b14).trans b15
  refine ⟨l8, l9, _, _, rfl, rfl, b16 _ _ (f9 _ _ al8), upd_same, (by show 5 + 4 ≤ sizeLine; decide), fun l10 hl10 => ?_⟩
  have b17 := b16.trans (Evl.Ex.new hl10 (o := .lst ([y1, y2, y3, .ref y4, y5] ++ [y6, .ref p3, y8, oh])))
  have EE := E9.ex ((g9.trans f9).trans b17)
  refine ⟨_, rfl, _, rfl, c, u, _, _, rfl, EE.urn, by omega, by decide, by decide, fun r8 H10 e10 m0 m1 => ?_⟩
  obtain ⟨v9, hv9, hat9, _⟩ := at_in (xs := [y1, y2, y3, .ref y4, y5] ++ [y6, .ref p3, y8, oh]) m0 (by exact m1)
  refine ⟨l10, _, _, _, rfl, rfl, SqL.of (e10.sq upd_same), hat9, kk v9 H10 ((EE.trans e10).le (by omega)) ?_⟩
  have fin := (up (b17)).trans (mix_mono (B0 := B) (H0 := H) e10.keep)
  have f9' := up f9
  simp only [List.cons_append, List.nil_append, List.mem_cons, List.not_mem_nil, or_false] at hv9
  rcases hv9 with rfl | rfl | rfl | rfl | rfl | rfl | rfl | rfl | rfl
  · exact D1.mono (f9'.trans fin)
  · exact D2.mono (f9'.trans fin)
  · exact D3.mono (f9'.trans fin)
  · exact D4.mono (f9'.trans fin)
  · exact D5.mono (f9'.trans fin)
  · exact D6.mono ((up (b14.trans b15)).trans fin)
  · exact D7.mono ((up b15).trans fin)
  · exact D8.mono fin
  · exact ⟨dn, hdn.exn ((up (g9.trans f9)).trans fin), sn.mono (by decide) (by decide)⟩
end
end Lr

namespace Lr
open PySem L2
/-! ### what a fault of a rule or a row is: said once -/
def withinD (d : PyData) (lo hi : Int) : Bool := match d with
  | .int i => decide (lo ≤ i) && decide (i ≤ hi)
  | _ => false
def numD (d : PyData) : Bool := isiD "int" d && !isiD "bool" d
theorem numD_within {d : PyData} {lo hi : Int} (h : numD d = false) : withinD d lo hi = false := by
  cases d <;> first | rfl | (simp [numD, isiD, kindD] at h)
theorem numD_int {d : PyData} (h : numD d = true) : ∃ i, d = .int i := by
  cases d with
  | int i => exact ⟨i, rfl⟩
  | _ => simp [numD, isiD, kindD] at h
/-- an arrangement of n lanes -/
def ArrOk (n : Nat) (d : PyData) : Prop := ∃ ns : List Int, d = .tuple (ns.map .int) ∧ ns.Perm (upto n)
def tellI (k : Nat) (x : Str) : PyData := .tuple [.int k, .str x]
/-- the first item that is not so -/
def First (p : PyData → Prop) (ds : List PyData) (x : Str) (r : PyData) : Prop := (r = .none ∧ ∀ d ∈ ds, p d) ∨ ∃ (k : Nat) (d : PyData), r = tellI k x ∧ ds[k]? = some d ∧ ¬ p d ∧ ∀ (j : Nat) (e : PyData), j < k → ds[j]? = some e → p e
theorem First.uniq {p : PyData → Prop} {ds : List PyData} {x : Str} {r q : PyData} (a : First p ds x r) (b : First p ds x q) : r = q := by
  rcases a with ⟨rfl, h⟩ | ⟨k, d, rfl, h1, h2, h3⟩
  · rcases b with ⟨rfl, _⟩ | ⟨k, d, rfl, h1, h2, h3⟩
    · rfl
    · exact absurd (h d (List.mem_of_getElem? h1)) h2
  · rcases b with ⟨rfl, h⟩ | ⟨k', d', rfl, g1, g2, g3⟩
    · exact absurd (h d (List.mem_of_getElem? h1)) h2
    · rcases Nat.lt_trichotomy k k' with q | q | q
      · exact absurd (g3 k d q h1) h2
      · rw [q]
      · exact absurd (h3 k' d' q g1) g2
def RuleRes (d r : PyData) : Prop := match d with
  | .tuple ds => if 2 ≤ ds.length ∧ ds.length ≤ 7 then First (ArrOk (ds.length - 1)) ds "preference" r else r = .tuple [.none, .str "rule"]
  | _ => r = .tuple [.none, .str "rule"]
def RowRes (n : Nat) (d r : PyData) : Prop := match d with
  | .tuple ds => if 1 ≤ ds.length ∧ ds.length ≤ 40 then First (fun e => withinD e 0 ((n : Int) - 1) = true) ds "lane" r else r = .tuple [.none, .str "row"]
  | _ => r = .tuple [.none, .str "row"]
theorem RuleRes.uniq {d r q : PyData} (a : RuleRes d r) (b : RuleRes d q) : r = q := by
  cases d with
  | tuple ds =>
    unfold RuleRes at a b
    simp only at a b
    split at a
    · rename_i h
      rw [if_pos h] at b
      exact a.uniq b
    · rename_i h
      rw [if_neg h] at b
      exact a.trans b.symm
  | _ => exact (show r = _ from a).trans (show q = _ from b).symm
theorem RowRes.uniq {n : Nat} {d r q : PyData} (a : RowRes n d r) (b : RowRes n d q) : r = q := by
  cases d with
  | tuple ds =>
    unfold RowRes at a b
    simp only at a b
    split at a
    · rename_i h
      rw [if_pos h] at b
      exact a.uniq b
    · rename_i h
      rw [if_neg h] at b
      exact a.trans b.symm
  | _ => exact (show r = _ from a).trans (show q = _ from b).symm
theorem upto_nodup (n : Nat) : (upto n).Nodup := by
  unfold upto
  exact List.Pairwise.map _ (fun a b hab z => hab (Int.ofNat.inj z)) List.nodup_range
theorem perm_upto {ns : List Int} {n : Nat} (hl : ns.length = n) (h : ∀ x ∈ ns, 0 ≤ x ∧ x < n) : ns.Nodup ↔ ns.Perm (upto n) := by
  constructor
  · intro nd
    exact perm_in nd (fun k hk => mem_upto.mpr (h k hk)) (by rw [upto_len]; omega)
  · intro p
    exact p.nodup_iff.mpr (upto_nodup n)
/-- items that are all numbers -/
theorem all_ints {H : Hp} : ∀ {xs : List V} {ds : List PyData} {lo hi : Int}, DvAll H xs ds → (∀ d ∈ ds, withinD d lo hi = true) → ∃ ns : List Int, xs = ns.map V.int ∧ ds = ns.map .int ∧ ∀ x ∈ ns, lo ≤ x ∧ x ≤ hi
  | _, _, _, _, .nil, _ => ⟨[], rfl, rfl, fun _ z => (nomatch z)⟩
  | _, _, lo, hi, .cons (d := d) a t, h => by
    obtain ⟨ns, rfl, rfl, hn⟩ := all_ints t fun e he => h e (by simp [he])
    have hd := h d (by simp)
    cases d with
    | int i =>
      cases a
      simp only [withinD, Bool.and_eq_true, decide_eq_true_eq] at hd
      refine ⟨i :: ns, rfl, rfl, fun x hx => ?_⟩
      rcases List.mem_cons.mp hx with rfl | hx
      · exact hd
      · exact hn x hx
    | _ => simp [withinD] at hd
theorem not_tup {d : PyData} (h : isiD "tuple" d = false) : ∀ ds, d ≠ .tuple ds := by
  rintro ds rfl
  simp [isiD, kindD] at h
theorem is_tup {d : PyData} (h : isiD "tuple" d = true) : ∃ ds, d = .tuple ds := by
  cases d with
  | tuple ds => exact ⟨ds, rfl⟩
  | _ => simp [isiD, kindD] at h
theorem ints_inj : ∀ {ns ms : List Int}, ns.map PyData.int = ms.map PyData.int → ns = ms
  | [], [], _ => rfl
  | [], _ :: _, h => by simp at h
  | _ :: _, [], h => by simp at h
  | a :: r, b :: t, h => by
    rw [List.map_cons, List.map_cons] at h
    injection h with h1 h2
    injection h1 with h1
    rw [h1, ints_inj h2]
abbrev sIsNum : Stmt := topS 1
abbrev nIsNum : List Str := ["value"]
theorem scIsNum : FnScope nIsNum ["value"] (defScope sIsNum) :=
  ⟨rfl, rfl, rfl, by decide +kernel, rfl, by decide +kernel, by decide +kernel⟩
abbrev sWithin : Stmt := topS 2
abbrev nWithin : List Str := ["value", "low", "high"]
theorem scWithin : FnScope nWithin ["value", "low", "high"] (defScope sWithin) :=
  ⟨rfl, rfl, rfl, by decide +kernel, rfl, by decide +kernel, by decide +kernel⟩
abbrev sArr : Stmt := topS 3
abbrev nArr : List Str := ["value", "count", "item"]
theorem scArr : FnScope nArr ["value", "count"] (defScope sArr) :=
  ⟨rfl, rfl, rfl, by decide +kernel, rfl, by decide +kernel, by decide +kernel⟩
section
variable {P : Program} {w : World} {K : PySem.W.Frag} {mg : Str → Option Value} {base : Heap}
def spNum : Sp := fun vs H Q _ => ∃ v d, vs = [v] ∧ Dv H v d ∧ ∀ H', Ex H H' → Q (.bl (numD d)) H'
theorem ok_num {f : Addr} {fd : FuncData} (F : Fun K "is_number" "is_number" sIsNum f fd) (T : Blt mg) : FnOk P w K mg base CX0 1 f fd ["value"] spNum := by
  refine F.ok scIsNum (fun vs H Q E h => ?_) (fun cdv A outer s H vs Q E hr h => ?_)
  · obtain ⟨v, d, rfl, _⟩ := h
    rfl
  obtain ⟨v, d, rfl, hd, k⟩ := h
  have k2 := k H (Evl.Ex.refl H)
  unfold numD at k2
  refine ⟨_, (pss_one (ps_ret (pe_and (pe_callB (k_isi (K := K) rfl) rfl T.isinstance bt_isinstance (pa_cons (pv 0) (pa_cons (pe_bltn (v := .ty "int") rfl T.int (by decide +kernel) rfl) pa_nil))) (pe_one (pe_not (pe_callB (k_isi (K := K) rfl) rfl T.isinstance bt_isinstance (pa_cons (pv 0) (pa_cons (pe_bltn (v := .ty "bool") rfl T.bool (by decide +kernel) rfl) pa_nil)))))))), ?_⟩
  refine ⟨_, rfl, v, .ty "int", _, _, _, rfl, .ty "int", ty_of hd, kit_D "int" d, _, rfl, ?_⟩
  cases hi : isiD "int" d with
  | false =>
    rw [hi] at k2
    exact iteF k2
  | true =>
    rw [hi] at k2
    exact iteT ⟨_, rfl, v, .ty "bool", _, _, _, rfl, .ty "bool", ty_of hd, kit_D "bool" d, _, rfl, k2⟩
def spWithin : Sp := fun vs H Q _ => ∃ v d lo hi, vs = [v, .int lo, .int hi] ∧ Dv H v d ∧ ∀ H', Ex H H' → Q (.bl (withinD d lo hi)) H'
theorem ok_within {f : Addr} {fd : FuncData} (F : Fun K "is_within" "is_within" sWithin f fd) (T : Blt mg) (cis_number : Cal P w K mg base 1 "is_number" ["value"] spNum) : FnOk P w K mg base CX0 2 f fd ["value", "low", "high"] spWithin := by
  refine F.ok scWithin (fun vs H Q E h => ?_) (fun cdv A outer s H vs Q E hr h => ?_)
  · obtain ⟨v, d, lo, hi, rfl, _⟩ := h
    rfl
  obtain ⟨v, d, lo, hi, rfl, hd, k⟩ := h
  refine ⟨_, (pss_one (ps_ret (pe_and (pe_cal cis_number (hr.mono (by decide)) rfl (pa_cons (pv 0) pa_nil)) (pe_one (pe_chain op_le op_le (pv 1) (pv 0) (pv 2)))))), ?_⟩
  refine ⟨_, rfl, v, d, rfl, hd, fun H1 e1 => ⟨_, rfl, ?_⟩⟩
  cases hn : numD d with
  | false =>
    have q := k H1 e1
    rw [numD_within hn] at q
    exact iteF q
  | true =>
    obtain ⟨i, rfl⟩ := numD_int hn
    cases hd
    refine iteT ⟨_, rfl, _, rfl, _, _, rfl, rfl, _, rfl, ?_⟩
    have q := k H1 e1
    unfold withinD at q
    simp only at q
    cases hl : decide (lo ≤ i) with
    | false =>
      rw [hl] at q
      exact iteF q
    | true =>
      rw [hl] at q
      exact iteT ⟨_, rfl, _, _, rfl, rfl, q⟩
def spArr : Sp := fun vs H Q _ => ∃ (v : V) (d : PyData) (n : Nat), vs = [v, .int n] ∧ Dv H v d ∧ n ≤ 1000 ∧ ∀ b H', Ex H H' → (b = true ↔ ArrOk n d) → Q (.bl b) H'
theorem ok_arr {f : Addr} {fd : FuncData} (F : Fun K "is_arrangement" "is_arrangement" sArr f fd) (T : Blt mg) (cis_within : Cal P w K mg base 2 "is_within" ["value", "low", "high"] spWithin) : FnOk P w K mg base CX0 3 f fd ["value", "count"] spArr := by
  refine F.ok scArr (fun vs H Q E h => ?_) (fun cdv A outer s H vs Q E hr h => ?_)
  · obtain ⟨v, d, n, rfl, _⟩ := h
    rfl
  obtain ⟨v, d, n, rfl, hd, hn, k⟩ := h
  refine ⟨_, (pss_cons (ps_if (PW.pt (pw_or (pt_not (pt_val (pe_callB (k_isi (K := K) rfl) rfl T.isinstance bt_isinstance (pa_cons (pv 0) (pa_cons (pe_bltn (v := .ty "tuple") rfl T.tuple (by decide +kernel) rfl) pa_nil))))) (pw_or1 (pt_cmpR op_ne (pe_callB (k_len (K := K) rfl) rfl T.len bt_len (pa_cons (pv 0) pa_nil)) (pv 1) (nomark _))))) (pss_one (ps_ret pe_bl)) pss_nil)
    (pss_cons (ps_if (pt_not (pt_val (pe_callB (k_all (K := K) rfl rfl) rfl T.all bt_all (pa_cons (pe_lc (own := [("item", 2)]) (g := gName 2)  (by rfl) scArr.nd (ki_tup (K := K) rfl (pv 0)) (blkOk_by (own := [("item", 2)]) (N := nArr) (sc := defScope sArr) (by decide +kernel)) (fun _ _ _ _ _ => (pg_name (i := 2) scArr.nd rfl (Or.inl rfl))) (fun _ _ _ _ _ => pts_nil) (fun _ _ _ _ _ => (pe_cal cis_within (hr.mono (by decide)) rfl (pa_cons (pv 2) (pa_cons pe_int (pa_cons (pe_op op_sub (pv 1) pe_int) pa_nil)))))) pa_nil)))) (pss_one (ps_ret pe_bl)) pss_nil)
    (pss_one (ps_ret (pe_cmpR op_eq (pe_lenSetT (K := K) rfl rfl T.len rfl T.set (pv 0)) (pv 1) (nomark _)))))), ?_⟩
  refine ⟨_, rfl, v, .ty "tuple", _, _, _, rfl, .ty "tuple", ty_of hd, kit_D "tuple" d, _, rfl, ?_⟩
  cases ht : isiD "tuple" d with
  | false =>
    refine iteT (iteT (k false H (Evl.Ex.refl H) ?_))
    constructor
    · intro z; cases z
    · rintro ⟨ns, e, _⟩; exact absurd e (not_tup ht _)
  | true =>
    obtain ⟨ds, rfl⟩ := is_tup ht
    obtain ⟨a, xs, rfl, ha, hx⟩ := tup_inv hd
    have hl := hx.len
    refine iteF ⟨_, rfl, a, xs, rfl, .inr (SqT.of ha), _, rfl, rfl, _, rfl, ?_⟩
    by_cases hc : xs.length = n
    · have : decide (V.int (xs.length : Int) = V.int (n : Int)) = true := decide_eq_true (by rw [hc])
      rw [this]
      refine iteF ?_
      -- all([is_within(item, 0, count - 1) for item in value])
      refine ⟨_, rfl, a, rfl, ⟨_, SqT.of ha⟩, fun D hD => made_tup (fun i v _ => ∃ e, ds[i]? = some e ∧ v = .bl (withinD e 0 ((n : Int) - 1))) hD (SqT.of ha) (by omega) (fun _ _ _ _ _ _ _ m => m) (fun _ => rfl) (fun i x hi H1 e1 Q1 q1 => ?_) (fun ys H1 hy e1 hD1 hm => ?_)⟩
      · obtain ⟨e, he, hde⟩ := hx.get hi
        exact ⟨_, rfl, _, rfl, _, _, rfl, rfl, x, e, 0, _, rfl, hde.mono e1, fun H2 e2 => q1 _ H2 e2 ⟨e, he, rfl⟩⟩
      · have bools : ys = (ds.map fun e => withinD e 0 ((n : Int) - 1)).map V.bl := by
          apply List.ext_getElem?
          intro i
          rw [List.getElem?_map, List.getElem?_map]
          cases hyi : ys[i]? with
          | none =>
            have := List.getElem?_eq_none_iff.mp hyi
            rw [List.getElem?_eq_none (by omega)]
            rfl
          | some y =>
            obtain ⟨e, he, rfl⟩ := hm i y hyi
            rw [he]
            rfl
        refine ⟨D, ds.map fun e => withinD e 0 ((n : Int) - 1), rfl, SqL.of (by rw [hD1, bools]), _, rfl, ?_⟩
        cases hall : ((ds.map fun e => withinD e 0 ((n : Int) - 1)).all id) with
        | false =>
          refine iteT (k false H1 e1 ?_)
          constructor
          · intro z; cases z
          · rintro ⟨ns, e, hp⟩
            have : ((ds.map fun e => withinD e 0 ((n : Int) - 1)).all id) = true := by
              rw [List.all_eq_true]
              intro b hb
              obtain ⟨e2, he2, rfl⟩ := List.mem_map.mp hb
              have e3 : ds = ns.map .int := by injection e
              rw [e3] at he2
              obtain ⟨x, hx2, rfl⟩ := List.mem_map.mp he2
              have := mem_upto.mp (hp.mem_iff.mp hx2)
              simp only [withinD, id, Bool.and_eq_true, decide_eq_true_eq]
              omega
            rw [this] at hall
            cases hall
        | true =>
          have each : ∀ d ∈ ds, withinD d 0 ((n : Int) - 1) = true := fun d hdm => by
            rw [List.all_eq_true] at hall
            exact hall _ (List.mem_map.mpr ⟨d, hdm, rfl⟩)
          obtain ⟨ns, rfl, rfl, hin⟩ := all_ints hx each
          have nl : ns.length = n := by rw [List.length_map] at hc; exact hc
          refine iteF ⟨_, rfl, a, ns, rfl, SqT.of (e1 _ _ ha), by omega, fun m hm2 => ⟨_, rfl, rfl, k _ H1 e1 ?_⟩⟩
          rw [decide_eq_true_iff]
          have pu := perm_upto nl fun x hx => by have := hin x hx; omega
          constructor
          · intro z
            have z2 := V.int.inj z
            exact ⟨ns, rfl, pu.mp (hm2.mp (by omega))⟩
          · rintro ⟨ns2, e, hp⟩
            have e3 : ns = ns2 := by
              injection e with e
              exact ints_inj e
            subst e3
            exact congrArg V.int (by have := hm2.mpr (pu.mpr hp); omega)
    · have : decide (V.int (xs.length : Int) = V.int (n : Int)) = false := decide_eq_false (fun z => hc (by have := V.int.inj z; omega))
      rw [this]
      refine iteT (k false H (Evl.Ex.refl H) ?_)
      constructor
      · intro z; cases z
      · rintro ⟨ns, e, hp⟩
        have e3 : ds = ns.map .int := by injection e
        have := hp.length_eq
        rw [upto_len] at this
        rw [e3, List.length_map] at hl
        exact absurd (by omega) hc
end
end Lr

namespace Lr
open PySem L2
theorem eqv_ints : ∀ (as bs : List Int), PyData.eqvAll (as.map .int) (bs.map .int) = decide (as = bs)
  | [], [] => by simp [PyData.eqvAll]
  | [], _ :: _ => by simp [PyData.eqvAll]
  | _ :: _, [] => by simp [PyData.eqvAll]
  | a :: r, b :: t => by
    simp only [List.map_cons, PyData.eqvAll, eqv_ints r t]
    simp only [PyData.eqv, List.cons.injEq, Bool.decide_and]
    rfl
theorem upto_sorted (n : Nat) : (upto n).Pairwise (· ≤ ·) := by
  unfold upto
  exact List.Pairwise.map _ (fun a b hab => by simpa using Nat.le_of_lt hab) List.pairwise_lt_range
theorem sorted_uniq : ∀ {as bs : List Int}, as.Perm bs → as.Pairwise (· ≤ ·) → bs.Pairwise (· ≤ ·) → as = bs := by
  intro as bs p a b
  exact p.eq_of_pairwise (le := (· ≤ ·)) (fun x y _ _ h1 h2 => Int.le_antisymm h1 h2) a b
abbrev sOrder : Stmt := topS 5
abbrev nOrder : List Str := ["row", "value"]
theorem scOrder : FnScope nOrder ["row", "value"] (defScope sOrder) :=
  ⟨rfl, rfl, rfl, by decide +kernel, rfl, by decide +kernel, by decide +kernel⟩
section
variable {P : Program} {w : World} {K : PySem.W.Frag} {mg : Str → Option Value} {base : Heap}
def spOrder : Sp := fun vs H Q _ => ∃ (r : Addr) (v : V) (d : PyData) (xs : List V), vs = [.ref r, v] ∧ H r = some (.tup xs) ∧ xs.length < 64 ∧ Dv H v d ∧ ∀ b H', Ex H H' → (b = true ↔ ArrOk xs.length d) → Q (.bl b) H'
theorem ok_order {f : Addr} {fd : FuncData} (F : Fun K "is_order" "is_order" sOrder f fd) (T : Blt mg) (cis_arrangement : Cal P w K mg base 3 "is_arrangement" ["value", "count"] spArr) : FnOk P w K mg base CX0 4 f fd ["row", "value"] spOrder := by
  refine F.ok scOrder (fun vs H Q E h => ?_) (fun cdv A outer s H vs Q E hr h => ?_)
  · obtain ⟨r, v, d, xs, rfl, _⟩ := h
    rfl
  obtain ⟨r, v, d, xs, rfl, hx, hl, hd, k⟩ := h
  refine ⟨_, (pss_one (ps_ret (pe_cal cis_arrangement (hr.mono (by decide)) rfl (pa_cons (pv 1) (pa_cons (pe_callB (k_len (K := K) rfl) rfl T.len bt_len (pa_cons (pv 0) pa_nil)) pa_nil))))), ?_⟩
  exact ⟨_, rfl, _, rfl, r, xs, rfl, .inr (SqT.of hx), v, d, xs.length, rfl, hd, by omega, k⟩
end
end Lr

namespace Lr
open PySem L2
/-- a plain number -/
def isI : V → Bool
  | .int _ => true
  | _ => false
theorem isI_of {H : Hp} {v : V} {d : PyData} (h : Dv H v d) : isI v = numD d := by
  cases h <;> rfl
theorem all_num {H : Hp} : ∀ {xs : List V} {ds : List PyData}, DvAll H xs ds → xs.filter (fun v => !isI v) = [] → ∃ ns : List Int, xs = ns.map V.int ∧ ds = ns.map .int
  | _, _, .nil, _ => ⟨[], rfl, rfl⟩
  | _, _, .cons (v := v) (d := d) a t, h => by
    cases hi : isI v with
    | true =>
      rw [List.filter_cons_of_neg (by simp [hi])] at h
      obtain ⟨ns, rfl, rfl⟩ := all_num t h
      rw [isI_of a] at hi
      obtain ⟨i, rfl⟩ := numD_int hi
      cases a
      exact ⟨i :: ns, rfl, rfl⟩
    | false =>
      rw [List.filter_cons_of_pos (by simp [hi])] at h
      cases h
theorem num_all (ns : List Int) : (ns.map V.int).filter (fun v => !isI v) = [] := by
  induction ns with
  | nil => rfl
  | cons x r ih => rw [List.map_cons, List.filter_cons_of_neg (by simp [isI])]; exact ih
abbrev sIsOrd : Stmt := topS 14
abbrev nIsOrd : List Str := ["_law_row_here", "_law_value", "_law_one"]
theorem scIsOrd : FnScope nIsOrd ["_law_row_here", "_law_value"] (defScope sIsOrd) :=
  ⟨rfl, rfl, rfl, by decide +kernel, rfl, by decide +kernel, by decide +kernel⟩
section
variable {P : Program} {w : World} {K : PySem.W.Frag} {mg : Str → Option Value} {base : Heap}
theorem ok_law_is_order {f : Addr} {fd : FuncData} (F : Fun K "_law_is_order" "_law_is_order" sIsOrd f fd) (T : Blt mg) : FnOk P w K mg base CX0 1 f fd ["_law_row_here", "_law_value"] spOrder := by
  refine F.ok scIsOrd (fun vs H Q E h => ?_) (fun cdv A outer s H vs Q E hr h => ?_)
  · obtain ⟨r, v, d, xs, rfl, _⟩ := h
    rfl
  obtain ⟨r, v, d, rs, rfl, hr0, hl0, hd, k⟩ := h
  refine ⟨_, (pss_cons (ps_if (PW.pt (pw_or (pt_not (pt_val (pe_callB (k_isi (K := K) rfl) rfl T.isinstance bt_isinstance (pa_cons (pv 1) (pa_cons (pe_bltn (v := .ty "tuple") rfl T.tuple (by decide +kernel) rfl) pa_nil))))) (pw_or1 (pt_cmpR op_ne (pe_callB (k_len (K := K) rfl) rfl T.len bt_len (pa_cons (pv 1) pa_nil)) (pe_callB (k_len (K := K) rfl) rfl T.len bt_len (pa_cons (pv 0) pa_nil)) (nomark _))))) (pss_one (ps_ret pe_bl)) pss_nil)
    (pss_cons (ps_if (pt_cmpR (ko_neNil (K := K) rfl hr.units) (pe_lc (own := [("_law_one", 2)]) (g := gName 2)  (by rfl) scIsOrd.nd (ki_tup (K := K) rfl (pv 1)) (blkOk_by (own := [("_law_one", 2)]) (N := nIsOrd) (sc := defScope sIsOrd) (by decide +kernel)) (fun _ _ _ _ _ => (pg_name (i := 2) scIsOrd.nd rfl (Or.inl rfl))) (fun _ _ _ _ _ => pts_one (PW.pt (pw_or (pt_not (pt_val (pe_callB (k_isi (K := K) rfl) rfl T.isinstance bt_isinstance (pa_cons (pv 2) (pa_cons (pe_bltn (v := .ty "int") rfl T.int (by decide +kernel) rfl) pa_nil))))) (pw_or1 (pt_val (pe_callB (k_isi (K := K) rfl) rfl T.isinstance bt_isinstance (pa_cons (pv 2) (pa_cons (pe_bltn (v := .ty "bool") rfl T.bool (by decide +kernel) rfl) pa_nil)))))))) (fun _ _ _ _ _ => (pv 2))) (pe_lst pa_nil) (nomark _)) (pss_one (ps_ret pe_bl)) pss_nil)
    (pss_one (ps_ret (pe_cmpR (ko_eqD (K := K) rfl hr.units) (pe_callB (cr_sortT (K := K) rfl) rfl T.sorted bt_sorted (pa_cons (pv 1) pa_nil)) (pe_listRg rfl rfl T.list (prg_1 rfl T.range (pe_callB (k_len (K := K) rfl) rfl T.len bt_len (pa_cons (pv 0) pa_nil)))) (nomark _)))))), ?_⟩
  refine ⟨_, rfl, v, .ty "tuple", _, _, _, rfl, .ty "tuple", ty_of hd, kit_D "tuple" d, _, rfl, ?_⟩
  cases ht : isiD "tuple" d with
  | false =>
    refine iteT (iteT (k false H (Evl.Ex.refl H) ?_))
    constructor
    · intro z; cases z
    · rintro ⟨ns, e, _⟩; exact absurd e (not_tup ht _)
  | true =>
    obtain ⟨ds, rfl⟩ := is_tup ht
    obtain ⟨a, xs, rfl, ha, hx⟩ := tup_inv hd
    have hl := hx.len
    refine iteF ⟨_, rfl, a, xs, rfl, .inr (SqT.of ha), _, rfl, r, rs, rfl, .inr (SqT.of hr0), rfl, _, rfl, ?_⟩
    by_cases hc : xs.length = rs.length
    · rw [show decide (V.int (xs.length : Int) = V.int (rs.length : Int)) = true from decide_eq_true (by rw [hc])]
      refine iteF ⟨_, rfl, a, rfl, ⟨_, SqT.of ha⟩, fun D hD => filt_tup (fun v => !isI v) hD (SqT.of ha) (by omega) (fun _ => rfl) (fun x H1 hxm e1 Q1 q1 => ?_) (fun x H1 e1 Q1 q1 => ⟨_, rfl, q1⟩) (fun H1 e1 h1 => ?_)⟩
      · obtain ⟨i, hi⟩ := List.mem_iff_getElem?.mp hxm
        obtain ⟨e, he, hde⟩ := hx.get hi
        have hde := hde.mono e1
        rw [isI_of hde] at q1
        refine ⟨_, rfl, x, .ty "int", _, _, _, rfl, .ty "int", ty_of hde, kit_D "int" e, _, rfl, ?_⟩
        unfold numD at q1
        cases hi2 : isiD "int" e with
        | false =>
          rw [hi2] at q1
          exact iteT q1
        | true =>
          rw [hi2] at q1
          refine iteF ⟨_, rfl, x, .ty "bool", _, _, _, rfl, .ty "bool", ty_of hde, kit_D "bool" e, _, rfl, ?_⟩
          simpa using q1
      · refine ⟨(by show 0 ≤ sizeLine; decide), fun z hz => ⟨D, z, _, rfl, rfl, SqL.of (by rw [upd_ne (ne_of_none h1 hz)]; exact h1), SqL.of upd_same, _, rfl, ?_⟩⟩
        have e2 := e1.trans (Evl.Ex.new hz (o := .lst []))
        generalize upd H1 z (.lst []) = H2 at e2 ⊢
        by_cases hf : xs.filter (fun v => !isI v) = []
        · rw [decide_eq_false (fun q => q hf)]
          obtain ⟨ns, rfl, rfl⟩ := all_num hx hf
          rw [List.length_map] at hl hc
          refine iteF ⟨_, rfl, a, ns, rfl, SqT.of (e2 _ _ ha), by omega, fun ys p hp hso hpn => ?_⟩
          refine ⟨_, rfl, r, rs, rfl, .inr (SqT.of (Evl.Ex.new hpn _ _ (e2 _ _ hr0))), rs.length, rfl, RgOk.of_le (by decide) (by omega) (by decide) (by omega), fun l hl2 => ?_⟩
          rw [rgV_upto, Int.toNat_natCast] at *
          refine ⟨.list (ys.map .int), .list ((upto rs.length).map .int), .lst (SqL.of (by rw [upd_ne (ne_of_none upd_same hl2)]; exact upd_same)) (dp_ints _ _ ys), .lst (SqL.of upd_same) (dp_ints _ _ (upto rs.length)), shaped_ints ys, shaped_ints (upto rs.length), ?_⟩
          rw [show PyData.eqv (.list (ys.map .int)) (.list ((upto rs.length).map .int)) = decide (ys = upto rs.length) by rw [PyData.eqv]; exact eqv_ints _ _]
          refine k _ _ ((e2.trans (Evl.Ex.new hpn)).trans (Evl.Ex.new hl2)) ?_
          rw [decide_eq_true_iff]
          constructor
          · intro z
            exact ⟨ns, rfl, hp.symm.trans (z ▸ List.Perm.refl _)⟩
          · rintro ⟨ns2, e, hp2⟩
            injection e with e
            have e3 := ints_inj e
            subst e3
            exact sorted_uniq (hp.trans hp2) hso (upto_sorted _)
        · rw [decide_eq_true hf]
          refine iteT (k false H2 e2 ?_)
          constructor
          · intro z; cases z
          · rintro ⟨ns, e, hp⟩
            refine absurd ?_ hf
            have e3 : ds = ns.map .int := by injection e
            subst e3
            have : ∀ {xs : List V} {ns : List Int}, DvAll H xs (ns.map .int) → xs = ns.map V.int := by
              intro xs
              induction xs with
              | nil => intro ns h; cases ns with | nil => rfl | cons _ _ => cases h
              | cons v r ih =>
                intro ns h
                cases ns with
                | nil => cases h
                | cons n t =>
                  cases h with
                  | cons a b =>
                    cases a
                    rw [List.map_cons, ih b]
            rw [this hx]
            exact num_all ns
    · rw [show decide (V.int (xs.length : Int) = V.int (rs.length : Int)) = false from decide_eq_false (fun z => hc (by have := V.int.inj z; omega))]
      refine iteT (k false H (Evl.Ex.refl H) ?_)
      constructor
      · intro z; cases z
      · rintro ⟨ns, e, hp⟩
        have e3 : ds = ns.map .int := by injection e
        have := hp.length_eq
        rw [upto_len] at this
        rw [e3, List.length_map] at hl
        exact absurd (by omega) hc
end
end Lr

namespace Lr
open PySem L2
/-- a small number or a bool -/
def Sm (v : V) : Prop := (∃ z : Int, v = .int z ∧ z.natAbs < 10 ^ 12) ∨ ∃ b, v = .bl b
theorem sm_all {H : Hp} : ∀ {xs : List V}, (∀ v ∈ xs, Sm v) → ∃ ds, DvAll H xs ds ∧ ds.length = xs.length ∧ ∀ e ∈ ds, Sh 20 0 e
  | [], _ => ⟨[], .nil, rfl, fun _ z => (nomatch z)⟩
  | v :: r, h => by
    obtain ⟨ds, a, b, c⟩ := sm_all (H := H) (xs := r) fun y hy => h y (by simp [hy])
    obtain ⟨d, hd, sd⟩ : ∃ d, Dv H v d ∧ Sh 20 0 d := by
      rcases h v (by simp) with ⟨z, rfl, hz⟩ | ⟨b, rfl⟩
      · exact ⟨_, .int z, int_sh hz⟩
      · exact ⟨_, .bl b, bool_sh b⟩
    refine ⟨d :: ds, .cons hd a, by simp [b], fun e he => ?_⟩
    rcases List.mem_cons.mp he with rfl | he
    · exact sd
    · exact c e he
theorem sm_tup {H : Hp} {p : Addr} {xs : List V} (h : H p = some (.tup xs)) (hs : ∀ v ∈ xs, Sm v) (hl : xs.length ≤ 100) : Da 10000 5 H (.ref p) := by
  obtain ⟨ds, a, b, c⟩ := sm_all (H := H) hs
  exact ⟨_, .tup h a, (sh_tup (c := 100) c (by omega)).mono (by decide) (by decide)⟩
theorem sm_lst {H : Hp} {p : Addr} {xs : List V} (h : H p = some (.lst xs)) (hs : ∀ v ∈ xs, Sm v) (hl : xs.length ≤ 100) : Da 10000 5 H (.ref p) := by
  obtain ⟨ds, a, b, c⟩ := sm_all (H := H) hs
  exact ⟨_, .lst h a, (sh_lst (c := 100) c (by omega)).mono (by decide) (by decide)⟩
theorem sm_ints {ns : List Int} (h : ∀ x ∈ ns, x.natAbs < 10 ^ 12) : ∀ v ∈ ns.map V.int, Sm v := fun v hv => by
  obtain ⟨x, hx, rfl⟩ := List.mem_map.mp hv
  exact .inl ⟨x, rfl, h x hx⟩
def one (a : Addr) (o : HO) : Hp := fun x => if x = a then some o else none
theorem one_at {a : Addr} {o : HO} : one a o a = some o := if_pos rfl
theorem one_ex {H : Hp} {a : Addr} {o : HO} (h : H a = some o) : Ex (one a o) H := fun x u e => by
  unfold one at e
  by_cases q : x = a
  · rw [if_pos q] at e
    rw [q, h, ← e]
  · rw [if_neg q] at e; cases e
theorem none_ex {H : Hp} : Ex H0 H := fun _ _ h => nomatch h
abbrev sLaw : Stmt := topS 15
abbrev nLaw : List Str := ["_law_script", "_law_urn_here", "_law_turn", "_law_row_here", "_law_plain", "_law_order", "_law_bools", "_law_values", "_law_value", "_law_shown", "_law_due", "_law_car", "_law_k"]
theorem scLaw : FnScope nLaw ["_law_script"] (defScope sLaw) :=
  ⟨rfl, rfl, rfl, by decide +kernel, rfl, by decide +kernel, by decide +kernel⟩
section
variable {P : Program} {w : World} {K : PySem.W.Frag} {mg : Str → Option Value} {base : Heap}
def spLaw (K : PySem.W.Frag) : Sp := fun vs H Q _ => ∃ (a : Addr) (ns : List Int), vs = [.ref a] ∧ SqL K H a (ns.map V.int) ∧ ns.length ≤ 63 ∧ ∀ H', Q (.bl true) H'
theorem ok_law {f : Addr} {fd : FuncData} (hs : HasSys base) (F : Fun K "law" "law" sLaw f fd) (T : Blt mg) (c_law_urn : Cal P w K mg base 1 "_law_urn" ["_law_script"] (spUrn P w K))
    (c_law_rule : Cal P w K mg base 3 "_law_rule" ["_law_urn_here"] (spRule P w)) (c_law_row : Cal P w K mg base 2 "_law_row" ["_law_urn_here", "_law_rule_here", "_law_cars"] (spRow P w))
    (c_law_mixed : Cal P w K mg base 2 "_law_mixed" ["_law_urn_here", "_law_items"] (spMixed P w K)) (c_law_odd : Cal P w K mg base 2 "_law_odd" ["_law_urn_here"] (spOdd P w))
    (c_law_bent : Cal P w K mg base 3 "_law_bent" ["_law_urn_here", "_law_order"] (spBent P w)) (c_law_is_order : Cal P w K mg base 1 "_law_is_order" ["_law_row_here", "_law_value"] spOrder)
    (cis_order : Cal P w K mg base 4 "is_order" ["row", "value"] spOrder) : FnG P w K mg base 5 f fd ["_law_script"] (spLaw K) := by
  refine fnG F scLaw (fun vs H Q E h => ?_) (fun cdv A outer s H vs Q E hr hg h => ?_)
  · obtain ⟨a, ns, rfl, _⟩ := h
    rfl
  obtain ⟨a, ns, rfl, hS, hlen, kQ⟩ := h
  refine ⟨_, (pss_cons (ps_set (i := 1) scLaw.nd rfl (Or.inr rfl) (pe_cal c_law_urn (hr.mono (by decide)) rfl (pa_cons (pv 0) pa_nil)))
    (pss_cons (ps_for PassesOwn.never rfl (pi_range1 rfl T.range (pa_cons pe_int pa_nil)) (pg_name (i := 2) scLaw.nd rfl (Or.inl rfl)) (pss_cons (ps_set (i := 3) scLaw.nd rfl (Or.inl rfl) (pe_cal c_law_row (hr.mono (by decide)) rfl (pa_cons (pv 1) (pa_cons (pe_cal c_law_rule (hr.mono (by decide)) rfl (pa_cons (pv 1) pa_nil)) (pa_cons (pe_ix (kx_list (K := K) rfl) (pe_lst (pa_cons pe_int (pa_cons pe_int pa_nil))) (pe_op op_modN (pv 2) pe_int) (fun _ _ => rfl)) pa_nil)))))
      (pss_cons (ps_set (i := 4) scLaw.nd rfl (Or.inl rfl) (pe_tupRg rfl rfl T.tuple (prg_1 rfl T.range (pe_callB (k_len (K := K) rfl) rfl T.len bt_len (pa_cons (pv 3) pa_nil)))))
      (pss_cons (ps_set (i := 5) scLaw.nd rfl (Or.inr rfl) (pe_cal c_law_mixed (hr.mono (by decide)) rfl (pa_cons (pv 1) (pa_cons (pv 4) pa_nil))))
      (pss_cons (ps_set (i := 6) scLaw.nd rfl (Or.inl rfl) (pe_callTy (k_tuple_of (K := K) rfl) rfl T.tuple bt_tuple (pa_cons (pe_lc (own := [("_law_car", 11)]) (g := gName 11)  (by rfl) scLaw.nd (ki_tup (K := K) rfl (pv 5)) (blkOk_by (own := [("_law_car", 11)]) (N := nLaw) (sc := defScope sLaw) (by decide +kernel)) (fun _ _ _ _ _ => (pg_name (i := 11) scLaw.nd rfl (Or.inl rfl))) (fun _ _ _ _ _ => pts_nil) (fun _ _ _ _ _ => (pe_ix (kx_list (K := K) rfl) (pe_lst (pa_cons (pv 11) (pa_cons (pe_cmpR op_eq (pv 11) pe_int (nomark _)) pa_nil))) (pe_callTy call_int1 rfl T.int bt_int (pa_cons (pe_cmpR op_lt (pv 11) pe_int (nomark _)) pa_nil)) (fun _ _ => rfl)))) pa_nil)))
      (pss_cons (ps_set (i := 7) scLaw.nd rfl (Or.inl rfl) (pe_lst (pa_cons (pv 5) (pa_cons (pv 4) (pa_cons (pv 6) (pa_cons (pe_slice (ks_tup (K := K) rfl) (pv 4) (po_some pe_int) po_none) (pa_cons (pe_op (ko_catT (K := K) rfl) (pv 4) (pe_tup (pa_cons (pe_callB (k_len (K := K) rfl) rfl T.len bt_len (pa_cons (pv 3) pa_nil)) pa_nil))) (pa_cons (pe_callTy (k_tuple_of (K := K) rfl) rfl T.tuple bt_tuple (pa_cons (pe_lc (own := [("_law_car", 11)]) (g := gName 11)  (by rfl) scLaw.nd (ki_tup (K := K) rfl (pv 4)) (blkOk_by (own := [("_law_car", 11)]) (N := nLaw) (sc := defScope sLaw) (by decide +kernel)) (fun _ _ _ _ _ => (pg_name (i := 11) scLaw.nd rfl (Or.inl rfl))) (fun _ _ _ _ _ => pts_nil) (fun _ _ _ _ _ => (pe_op op_add (pv 11) pe_int))) pa_nil)) (pa_cons (pe_callTy (k_list_of (K := K) rfl) rfl T.list bt_list (pa_cons (pv 4) pa_nil)) pa_nil)))))))))
      (pss_cons (ps_set (i := 7) scLaw.nd rfl (Or.inl rfl) (pe_op op_cat (pe_op op_cat (pv 7) (pe_lc (own := [("_law_k", 12)]) (g := gName 12)  (by rfl) scLaw.nd (pi_range1 rfl T.range (pa_cons pe_int pa_nil)) (blkOk_by (own := [("_law_k", 12)]) (N := nLaw) (sc := defScope sLaw) (by decide +kernel)) (fun _ _ _ _ _ => (pg_name (i := 12) scLaw.nd rfl (Or.inl rfl))) (fun _ _ _ _ _ => pts_nil) (fun _ _ _ _ _ => (pe_cal c_law_bent (hr.mono (by decide)) rfl (pa_cons (pv 1) (pa_cons (pv 5) pa_nil)))))) (pe_lst (pa_cons (pe_cal c_law_odd (hr.mono (by decide)) rfl (pa_cons (pv 1) pa_nil)) (pa_cons (pe_tup pa_nil) (pa_cons pe_non (pa_cons (pv 3) pa_nil)))))))
      (pss_one (ps_for PassesOwn.never rfl (ki_list (K := K) rfl (pv 7)) (pg_name (i := 8) scLaw.nd rfl (Or.inl rfl)) (pss_cons (ps_par (i := 9) (j := 10) rfl scLaw.nd rfl rfl (by decide) rfl rfl (pa_cons (pe_callB (call_reprS hg hr.units hs) rfl T.repr bt_repr (pa_cons (pe_lst (pa_cons (pv 3) (pa_cons (pv 8) pa_nil))) pa_nil)) (pa_cons (pe_cal c_law_is_order (hr.mono (by decide)) rfl (pa_cons (pv 3) (pa_cons (pv 8) pa_nil))) pa_nil)) rfl)
        (pss_one (ps_if (PW.pt (pw_or (pt_cmpR op_ne (pe_callB (call_reprS hg hr.units hs) rfl T.repr bt_repr (pa_cons (pe_cal cis_order (hr.mono (by decide)) rfl (pa_cons (pv 3) (pa_cons (pv 8) pa_nil))) pa_nil)) (pe_callB (call_reprS hg hr.units hs) rfl T.repr bt_repr (pa_cons (pv 10) pa_nil)) (nomark _)) (pw_or1 (pt_cmpR op_ne (pe_callB (call_reprS hg hr.units hs) rfl T.repr bt_repr (pa_cons (pe_lst (pa_cons (pv 3) (pa_cons (pv 8) pa_nil))) pa_nil)) (pv 9) (nomark _))))) (pss_one (ps_ret pe_bl)) pss_nil))))))))))))
    (pss_one (ps_ret pe_bl)))), ?_⟩
  have z0 : 0 ≤ sizeLine := by decide
  have z1 : 1 ≤ sizeLine := by decide
  have z2 : 2 ≤ sizeLine := by decide
  refine ⟨_, rfl, a, ns, rfl, hS, hlen, fun c l H0' e0 C => ?_⟩
  refine ⟨8, rfl, by decide, by decide, for_range (fun i σ H' => (∃ x2 x3 x4 x5 x6 x7 x8 x9 x10 x11 x12 : Option V, σ = [some (.ref a), some (.ref c), x2, x3, x4, x5, x6, x7, x8, x9, x10, x11, x12]) ∧ UrnAt P w H' c l (i * 1000)) ⟨⟨_, _, _, _, _, _, _, _, _, _, _, rfl⟩, by simpa using C⟩ ?_ (fun σ H' _ => kQ H')⟩
  rintro i σ H1 hi ⟨⟨x2, x3, x4, x5, x6, x7, x8, x9, x10, x11, x12, rfl⟩, C1⟩
  have hi8 : i < 8 := by simpa using hi
  -- row
  refine ⟨_, rfl, _, rfl, c, l, _, rfl, C1, by omega, fun rv n ps H2 e2 hn hR hrv => ⟨z2, fun l1 hl1 => ?_⟩⟩
  obtain ⟨u, hu, hu1, hu2⟩ : ∃ u : Nat, atI [V.int 40, V.int 5] ((0 + (i : Int)).fmod 2) = some (.int (u : Int)) ∧ 1 ≤ u ∧ u ≤ 40 := by
    have b0 := Int.fmod_nonneg_of_pos (0 + (i : Int)) (b := 2) (by decide)
    have b1 := Int.fmod_lt_of_pos (0 + (i : Int)) (b := 2) (by decide)
    have : (0 + (i : Int)).fmod 2 = 0 ∨ (0 + (i : Int)).fmod 2 = 1 := by omega
    rcases this with q | q
    · rw [q]; exact ⟨40, rfl, by decide, by decide⟩
    · rw [q]; exact ⟨5, rfl, by decide, by decide⟩
  have E2 := e2.new hl1 (o := .lst [.int 40, .int 5])
  have nz2 : (2 : Int) ≠ 0 := by decide
  refine ⟨_, rfl, _, _, rfl, rfl, nz2, l1, _, _, _, rfl, rfl, SqL.of upd_same, hu, c, l, rv, u, n, ps, _, rfl, E2.urn, by omega, hrv.mono (Evl.Ex.new hl1), hR, by omega, hu1, by omega, fun pr rs H3 e3 hrow hr1 hr2 hin => ?_⟩
  have E3 : Ed P w c l (i * 1000 + 150) H1 H3 := (E2.trans e3).le (by omega)
  clear e2 e3 E2 hrv hl1
  have lrs : (rs.map V.int).length = rs.length := List.length_map ..
  -- plain
  refine ⟨_, rfl, pr, _, rfl, .inr (SqT.of hrow), _, rfl, RgOk.of_le (by decide) (by omega) (by decide) (by omega), fun pl hpl => ?_⟩
  rw [rgV_upto, Int.toNat_natCast, lrs]
  have apl : upd H3 pl (.tup ((upto rs.length).map V.int)) pl = some (.tup ((upto rs.length).map V.int)) := upd_same
  have hrow4 := Evl.Ex.new hpl (o := .tup ((upto rs.length).map V.int)) _ _ hrow
  have E4 := E3.new hpl (o := .tup ((upto rs.length).map V.int))
  generalize upd H3 pl (.tup ((upto rs.length).map V.int)) = H4 at apl hrow4 E4 ⊢
  clear E3 hrow hpl
  have hm : rs.length ≤ 40 := by omega
  -- order
  refine ⟨_, rfl, _, rfl, c, l, pl, upto rs.length, _, rfl, E4.urn, by omega, .inr (SqT.of apl), by rw [upto_len]; omega, fun po os H5 e5 hpo hos => ?_⟩
  rw [upto_len] at e5
  have E5 : Ed P w c l (i * 1000 + 190) H1 H5 := (E4.trans e5).le (by omega)
  have apl5 := e5.tu apl
  have hrow5 := e5.tu hrow4
  clear E4 e5 apl hrow4
  have los : os.length = rs.length := by rw [hos.length_eq, upto_len]
  have sos : ∀ x ∈ os, 0 ≤ x ∧ x < 40 := fun x hx => by
    have := mem_upto.mp (hos.mem_iff.mp hx)
    omega
  have sup : ∀ x ∈ upto rs.length, x.natAbs < 10 ^ 12 := fun x hx => by
    have := mem_upto.mp hx
    omega
  have lup : ((upto rs.length).map V.int).length ≤ 40 := by rw [List.length_map, upto_len]; exact hm
  -- bools
  refine ⟨_, rfl, po, rfl, ⟨_, SqT.of hpo⟩, fun D hD => made_tup (fun _ v _ => Sm v) hD (SqT.of hpo) (by rw [List.length_map]; omega) (fun _ _ _ _ _ _ _ m => m) (fun _ => rfl) (fun j x hj G e Q1 q1 => ?_) (fun bs H6 lbs e6 hD6 hbs => ⟨D, _, rfl, .inl ⟨SqL.of hD6, fun pb hpb => ?_⟩⟩)⟩
  · obtain ⟨x, hx, rfl⟩ := List.mem_map.mp (List.mem_of_getElem? hj)
    have hx2 := sos x hx
    refine ⟨_, rfl, _, rfl, rfl, z2, fun l2 hl2 => ⟨_, rfl, _, _, rfl, rfl, .inr ⟨_, rfl, ?_⟩⟩⟩
    cases hc : decide (x < 2) with
    | true => exact ⟨l2, _, _, _, rfl, rfl, SqL.of upd_same, rfl, q1 _ _ (Evl.Ex.new hl2) (.inr ⟨_, rfl⟩)⟩
    | false => exact ⟨l2, _, _, _, rfl, rfl, SqL.of upd_same, rfl, q1 _ _ (Evl.Ex.new hl2) (.inl ⟨x, rfl, by omega⟩)⟩
  rw [List.length_map] at lbs
  have sbs : ∀ v ∈ bs, Sm v := fun v hv => by
    obtain ⟨j, hj⟩ := List.mem_iff_getElem?.mp hv
    exact hbs j v hj
  have apb : upd H6 pb (.tup bs) pb = some (.tup bs) := upd_same
  have X7 : Ex H5 (upd H6 pb (.tup bs)) := e6.trans (Evl.Ex.new hpb)
  generalize upd H6 pb (.tup bs) = H7 at apb X7 ⊢
  clear hbs hD6 e6 hD hpb
  -- values
  refine ⟨_, rfl, _, rfl, _, rfl, _, rfl, 1, rfl, np (sl_at (X7 _ _ apl5) fun ps1 H8 e8 hps => ?_)⟩
  refine ⟨_, rfl, _, rfl, pr, _, rfl, .inr (SqT.of (e8 _ _ (X7 _ _ hrow5))), z1, fun p9 hp9 => ?_⟩
  have X8 := e8.trans (Evl.Ex.new hp9 (o := .tup [.int ((rs.map V.int).length : Int)]))
  refine cat_at (X8 _ _ (X7 _ _ apl5)) upd_same (by simp [upto_len]; omega) fun pc H10 e10 hpc => ?_
  have X10 := X7.trans (X8.trans e10)
  have hps := e10 _ _ (Evl.Ex.new hp9 (o := .tup [.int ((rs.map V.int).length : Int)]) _ _ hps)
  have apb := e10 _ _ (X8 _ _ apb)
  clear e8 e10 X8 hp9 X7
  refine ⟨_, rfl, pl, rfl, ⟨_, SqT.of (X10 _ _ apl5)⟩, fun D2 hD2 => made_tup (fun _ v _ => Sm v) hD2 (SqT.of (X10 _ _ apl5)) (by omega) (fun _ _ _ _ _ _ _ m => m) (fun _ => rfl) (fun j x hj G e Q1 q1 => ?_) (fun ws H11 lws e11 hD11 hws => ⟨D2, _, rfl, .inl ⟨SqL.of hD11, fun pw hpw => ?_⟩⟩)⟩
  · obtain ⟨x, hx, rfl⟩ := List.mem_map.mp (List.mem_of_getElem? hj)
    have hx2 := mem_upto.mp hx
    exact ⟨_, rfl, _, _, rfl, rfl, q1 _ _ (Evl.Ex.refl _) (.inl ⟨_, rfl, by omega⟩)⟩
  have sws : ∀ v ∈ ws, Sm v := fun v hv => by
    obtain ⟨j, hj⟩ := List.mem_iff_getElem?.mp hv
    exact hws j v hj
  have apw : upd H11 pw (.tup ws) pw = some (.tup ws) := upd_same
  have X12 := e11.trans (Evl.Ex.new hpw (o := .tup ws))
  generalize upd H11 pw (.tup ws) = H12 at apw X12 ⊢
  clear hws hD11 e11 hD2 hpw
  refine ⟨_, rfl, pl, _, rfl, .inr (SqT.of (X12 _ _ (X10 _ _ apl5))), fun lp hlp => ⟨(by show 7 ≤ sizeLine; decide), fun l3 hl3 => ?_⟩⟩
  have X13 := Evl.Ex.new hlp (o := .lst ((upto rs.length).map V.int))
  have alp : upd H12 lp (.lst ((upto rs.length).map V.int)) lp = some (.lst ((upto rs.length).map V.int)) := upd_same
  have X14 : Ex H5 (upd H12 lp (.lst ((upto rs.length).map V.int))) := X10.trans (X12.trans X13)
  have IL : ∀ y ∈ [V.ref po, .ref pl, .ref pb, .ref ps1, .ref pc, .ref pw, .ref lp], Da 10000 5 (upd H12 lp (.lst ((upto rs.length).map V.int))) y := fun y hy => by
    simp only [List.mem_cons, List.not_mem_nil, or_false] at hy
    rcases hy with rfl | rfl | rfl | rfl | rfl | rfl | rfl
    · exact sm_tup (X14 _ _ hpo) (sm_ints fun x hx => by have := sos x hx; omega) (by rw [List.length_map]; omega)
    · exact sm_tup (X14 _ _ apl5) (sm_ints sup) (by omega)
    · exact sm_tup ((X12.trans X13) _ _ apb) sbs (by omega)
    · rw [show (some (1 : Int)) = some ((1 : Nat) : Int) from rfl, cut_from] at hps
      exact sm_tup ((X12.trans X13) _ _ hps) (fun v hv => sm_ints sup v (List.mem_of_mem_drop hv)) (by rw [List.length_drop]; omega)
    · refine sm_tup ((X12.trans X13) _ _ hpc) (fun v hv => ?_) (by simp [upto_len]; omega)
      rcases List.mem_append.mp hv with q | q
      · exact sm_ints sup v q
      · rcases List.mem_singleton.mp q with rfl
        exact .inl ⟨_, rfl, by rw [lrs]; omega⟩
    · exact sm_tup (X13 _ _ apw) sws (by omega)
    · exact sm_lst alp (sm_ints sup) (by omega)
  have lenL : [V.ref po, .ref pl, .ref pb, .ref ps1, .ref pc, .ref pw, .ref lp].length = 7 := rfl
  generalize [V.ref po, .ref pl, .ref pb, .ref ps1, .ref pc, .ref pw, .ref lp] = L at IL lenL ⊢
  generalize upd H12 lp (.lst ((upto rs.length).map V.int)) = H14 at X14 IL hl3 ⊢
  clear X13 X12 X10 apw apb hps hpc alp hlp
  have X15 := X14.trans (Evl.Ex.new hl3 (o := .lst L))
  have al3 : upd H14 l3 (.lst L) l3 = some (.lst L) := upd_same
  have IL : ∀ y ∈ L, Da 10000 5 (upd H14 l3 (.lst L)) y := fun y hy => (IL y hy).mono (Exn.of (Evl.Ex.new hl3))
  generalize upd H14 l3 (.lst L) = H15 at X15 al3 IL ⊢
  have E15 := E5.ex X15
  have hpo15 := X15 _ _ hpo
  have hrow15 := X15 _ _ hrow5
  clear X14 hl3
  -- values + [bent ..] + [..]
  refine ⟨_, rfl, 9, rfl, by decide, by decide, fun D3 hD3 => ?_⟩
  have npD : po ≠ D3 := ne_of_none hpo15 hD3
  refine made_rangeX (n := 9) (T := i * 1000 + 190) 5 (Da 10000 5) E15.urn hD3 (by decide) (fun v G G' e h => h.mono e) (fun _ => rfl) (fun j hj G e hG Q1 q1 => ?_) (fun bt H16 lbt e16 hD16 hbt => ?_)
  · refine ⟨_, rfl, _, rfl, c, l, po, one po (.tup (os.map V.int)), os, _, rfl, e.urn, by omega, one_ex (e.tu hpo15), one_at, by omega, by omega, sos, fun v G2 e2 hv => q1 v G2 e2 (hv.mono ?_)⟩
    exact mix_hid (one_ex (e.tu hpo15)) e2.keep (by unfold one; rw [if_neg (Ne.symm npD)]) hG
  have E16 : Ed P w c l (i * 1000 + 235) H1 H16 := (E15.trans e16).le (by omega)
  have al16 := e16.sq al3
  have hrow16 := e16.tu hrow15
  have I16 : ∀ y ∈ L ++ bt, Da 10000 5 H16 y := fun y hy => by
    rcases List.mem_append.mp hy with q | q
    · exact (IL y q).mono e16.keep
    · exact (hbt y q).mono hid_at
  refine ⟨l3, D3, L, bt, rfl, rfl, al16, hD16, by rw [lenL, lbt]; decide, fun l6 hl6 => ?_⟩
  have len6 : (L ++ bt).length = 16 := by rw [List.length_append, lenL, lbt]
  generalize L ++ bt = L6 at I16 len6 ⊢
  have X17 := Evl.Ex.new hl6 (o := .lst L6)
  have E17 := E16.ex X17
  have al17 : upd H16 l6 (.lst L6) l6 = some (.lst L6) := upd_same
  have I17 : ∀ y ∈ L6, Da 10000 5 (upd H16 l6 (.lst L6)) y := fun y hy => (I16 y hy).mono (Exn.of X17)
  have hrow17 := X17 _ _ hrow16
  generalize upd H16 l6 (.lst L6) = H17 at E17 al17 I17 hrow17 ⊢
  clear I16 X17 hl6 al16 hD16 hbt IL E16 e16 E15 X15 al3 hrow16
  refine ⟨_, rfl, c, l, _, rfl, E17.urn, by omega, fun v1 d1 H18 e18 hv1 hd1 => ⟨z0, fun p1 hp1 => ⟨_, rfl, (by show 4 ≤ sizeLine; decide), fun l7 hl7 => ?_⟩⟩⟩
  have X19 := Evl.Ex.new hp1 (o := .tup [])
  have X20 := X19.trans (Evl.Ex.new hl7 (o := .lst [v1, .ref p1, .non, .ref pr]))
  refine ⟨l6, l7, L6, _, rfl, rfl, X20 _ _ (e18.sq al17), upd_same, by rw [len6]; exact (by decide : 16 + 4 ≤ sizeLine), fun l8 hl8 => ?_⟩
  have X21 := X20.trans (Evl.Ex.new hl8 (o := .lst (L6 ++ [v1, .ref p1, .non, .ref pr])))
  have E21 : Ed P w c l (i * 1000 + 236) H1 _ := (E17.trans e18).ex X21
  have I21 : ∀ y ∈ L6 ++ [v1, .ref p1, .non, .ref pr], Da 10000 5 (upd (upd (upd H18 p1 (.tup [])) l7 (.lst [v1, .ref p1, .non, .ref pr])) l8 (.lst (L6 ++ [v1, .ref p1, .non, .ref pr]))) y := fun y hy => by
    rcases List.mem_append.mp hy with q | q
    · exact (I17 y q).mono (e18.keep.trans (Exn.of X21))
    · simp only [List.mem_cons, List.not_mem_nil, or_false] at q
      rcases q with rfl | rfl | rfl | rfl
      · exact ⟨d1, (hv1.exn (mix_at none_ex e18.es)).mono X21, (odd_sh d1 hd1).mono (by decide) (by decide)⟩
      · exact sm_tup (((Evl.Ex.new hl7).trans (Evl.Ex.new hl8)) _ _ upd_same) (fun _ z => (nomatch z)) (by decide)
      · exact ⟨.none, .non, by decide +kernel, by decide +kernel, by decide +kernel⟩
      · exact sm_tup (X21 _ _ (e18.tu hrow17)) (sm_ints fun x hx => by have := hin x hx; omega) (by rw [List.length_map]; omega)
  have al21 : upd (upd (upd H18 p1 (.tup [])) l7 (.lst [v1, .ref p1, .non, .ref pr])) l8 (.lst (L6 ++ [v1, .ref p1, .non, .ref pr])) l8 = some (.lst (L6 ++ [v1, .ref p1, .non, .ref pr])) := upd_same
  have hrow21 := X21 _ _ (e18.tu hrow17)
  generalize L6 ++ [v1, V.ref p1, V.non, V.ref pr] = L8 at I21 al21 E21 hrow21 ⊢
  generalize upd (upd (upd H18 p1 (.tup [])) l7 (.lst [v1, .ref p1, .non, .ref pr])) l8 (.lst L8) = G8 at I21 al21 E21 hrow21 ⊢
  -- for value in values
  refine ⟨_, rfl, l8, rfl, ⟨_, SqL.of al21⟩, ?_⟩
  refine for_list (K := K) (a := l8) (xs := L8) (fun j σ H' => (∃ w8 w9 w10 w11 w12 : Option V, σ = [some (.ref a), some (.ref c), some (.int (0 + (i : Int))), some (.ref pr), some (.ref pl), some (.ref po), some (.ref pb), some (.ref l8), w8, w9, w10, w11, w12]) ∧ Ex G8 H')
    ⟨⟨_, _, _, _, _, rfl⟩, Evl.Ex.refl _⟩ (fun j σ H' _ h => SqL.of (h.2 _ _ al21)) ?turn ?after
  case after =>
    rintro σ H' ⟨⟨w8, w9, w10, w11, w12, rfl⟩, e⟩
    exact ⟨⟨_, _, _, _, _, _, _, _, _, _, _, rfl⟩, (E21.urn.ex e).le (by omega)⟩
  case turn =>
    rintro j v σ J hv ⟨⟨w8, w9, w10, w11, w12, rfl⟩, eJ⟩
    obtain ⟨d, hd0, hval⟩ := I21 v (List.mem_of_getElem? hv)
    have hd : Dv J v d := hd0.mono eJ
    have hrJ := eJ _ _ hrow21
    have dr : ∀ {G : Hp}, Ex J G → Dv G (.ref pr) (.tuple (rs.map .int)) := fun e => .tup (e _ _ hrJ) (dv_ints _ rs)
    have rsh : Sh 100000 6 (.tuple (rs.map .int)) := (ints_sh (c := 40) (fun x hx => by have := hin x hx; omega) hm).mono (by decide) (by decide)
    have hfit := two_fit rsh (hval.mono (by decide) (by decide))
    -- shown, due = repr([row, value]), is_order(row, value)
    refine ⟨_, rfl, _, rfl, z2, fun q1 hq1 => ⟨.ref q1, .list [.tuple (rs.map .int), d], rfl, .lst upd_same (.cons (dr (Evl.Ex.new hq1)) (.cons (hd.mono (Evl.Ex.new hq1)) .nil)), hfit, ?_⟩⟩
    have g1 : Ex J (upd J q1 (.lst [.ref pr, v])) := Evl.Ex.new hq1
    generalize upd J q1 (.lst [.ref pr, v]) = K1 at g1 ⊢
    refine ⟨_, rfl, _, rfl, pr, v, d, _, rfl, g1 _ _ hrJ, by omega, hd.mono g1, fun b1 K2 g2 hb1 => ⟨_, _, rfl, ?_⟩⟩
    have G2 := g1.trans g2
    -- repr(is_order(row, value)) != repr(due)
    refine ⟨_, rfl, _, rfl, pr, v, d, _, rfl, G2 _ _ hrJ, by omega, hd.mono G2, fun b2 K3 g3 hb2 => ?_⟩
    have eb : b2 = b1 := by
      cases b1 <;> cases b2 <;> simp_all
    subst eb
    refine ⟨.bl b2, .bool b2, rfl, .bl b2, ((bool_sh b2).mono (by decide) (by decide)).fit (m := 100) (k := 2) (by decide) (by decide), _, rfl, .bl b2, .bool b2, rfl, .bl b2, ((bool_sh b2).mono (by decide) (by decide)).fit (m := 100) (k := 2) (by decide) (by decide), rfl, _, rfl, ?_⟩
    refine iteNS rfl ?_
    have G3 := G2.trans g3
    refine ⟨_, rfl, _, rfl, z2, fun q2 hq2 => ⟨.ref q2, .list [.tuple (rs.map .int), d], rfl, .lst upd_same (.cons (dr (G3.trans (Evl.Ex.new hq2))) (.cons (hd.mono (G3.trans (Evl.Ex.new hq2))) .nil)), hfit, _, rfl, rfl, _, rfl, ?_⟩⟩
    refine iteNS rfl ?_
    exact ⟨⟨_, _, _, _, _, rfl⟩, (eJ.trans G3).trans (Evl.Ex.new hq2)⟩
end
end Lr

namespace Lr
open PySem L2
theorem all_mk {l : PySem.W.OpenLaw} {w : World} {K : PySem.W.Frag} {h : Heap} {mg : Str → Option Value} {fa f1 f2 f3 f4 f5 f6 f7 f8 f9 f10 f11 f12 f13 : Addr} (X : K.In h) (G : h.Ns mainGlobals mg) (hfa : mg "law" = some (.ref fa))
    {od1 od2 od3 od4 od5 od6 od7 od8 od9 od10 od11 od12 od13 an1 an2 an3 an4 an5 an6 an7 an8 an9 an10 an11 an12 an13 : Option Addr}
    {sl1 sl2 sl3 sl4 sl5 sl6 sl7 sl8 sl9 sl10 sl11 sl12 sl13 : Array (Option Value)}
    {oc1 kV1 dc1 pm1 cd1 ct1 oc2 kV2 dc2 pm2 cd2 ct2 oc3 kV3 dc3 pm3 cd3 ct3 oc4 kV4 dc4 pm4 cd4 ct4 oc5 kV5 dc5 pm5 cd5 ct5 oc6 kV6 dc6 pm6 cd6 ct6 oc7 kV7 dc7 pm7 cd7 ct7 oc8 kV8 dc8 pm8 cd8 ct8 oc9 kV9 dc9 pm9 cd9 ct9 oc10 kV10 dc10 pm10 cd10 ct10 oc11 kV11 dc11 pm11 cd11 ct11 oc12 kV12 dc12 pm12 cd12 ct12 oc13 kV13 dc13 pm13 cd13 ct13 : Value}
    (a1 : PySem.W.nsIn K mainGlobals "is_number" = some (some (.ref f1)))
    (l1 : K.lookup f1 = some ⟨oc1, od1, .func (PySem.W.fnOf "is_number" "is_number" (defArgs sIsNum) (defBody sIsNum) (defScope sIsNum) .none kV1 dc1 pm1 an1 cd1 ct1), sl1⟩)
    (c1 : PySem.W.codeIn K cd1 "is_number" = true)
    (k1 : PySem.W.keepIn K (.ref f1) = true)
    (a2 : PySem.W.nsIn K mainGlobals "is_within" = some (some (.ref f2)))
    (l2 : K.lookup f2 = some ⟨oc2, od2, .func (PySem.W.fnOf "is_within" "is_within" (defArgs sWithin) (defBody sWithin) (defScope sWithin) .none kV2 dc2 pm2 an2 cd2 ct2), sl2⟩)
    (c2 : PySem.W.codeIn K cd2 "is_within" = true)
    (k2 : PySem.W.keepIn K (.ref f2) = true)
    (a3 : PySem.W.nsIn K mainGlobals "is_arrangement" = some (some (.ref f3)))
    (l3 : K.lookup f3 = some ⟨oc3, od3, .func (PySem.W.fnOf "is_arrangement" "is_arrangement" (defArgs sArr) (defBody sArr) (defScope sArr) .none kV3 dc3 pm3 an3 cd3 ct3), sl3⟩)
    (c3 : PySem.W.codeIn K cd3 "is_arrangement" = true)
    (k3 : PySem.W.keepIn K (.ref f3) = true)
    (a4 : PySem.W.nsIn K mainGlobals "is_order" = some (some (.ref f4)))
    (l4 : K.lookup f4 = some ⟨oc4, od4, .func (PySem.W.fnOf "is_order" "is_order" (defArgs sOrder) (defBody sOrder) (defScope sOrder) .none kV4 dc4 pm4 an4 cd4 ct4), sl4⟩)
    (c4 : PySem.W.codeIn K cd4 "is_order" = true)
    (k4 : PySem.W.keepIn K (.ref f4) = true)
    (a5 : PySem.W.nsIn K mainGlobals "_law_urn" = some (some (.ref f5)))
    (l5 : K.lookup f5 = some ⟨oc5, od5, .func (PySem.W.fnOf "_law_urn" "_law_urn" (defArgs sUrn) (defBody sUrn) (defScope sUrn) .none kV5 dc5 pm5 an5 cd5 ct5), sl5⟩)
    (c5 : PySem.W.codeIn K cd5 "_law_urn" = true)
    (k5 : PySem.W.keepIn K (.ref f5) = true)
    (a6 : PySem.W.nsIn K mainGlobals "_law_pull" = some (some (.ref f6)))
    (l6 : K.lookup f6 = some ⟨oc6, od6, .func (PySem.W.fnOf "_law_pull" "_law_pull" (defArgs sPull) (defBody sPull) (defScope sPull) .none kV6 dc6 pm6 an6 cd6 ct6), sl6⟩)
    (c6 : PySem.W.codeIn K cd6 "_law_pull" = true)
    (k6 : PySem.W.keepIn K (.ref f6) = true)
    (a7 : PySem.W.nsIn K mainGlobals "_law_mixed" = some (some (.ref f7)))
    (l7 : K.lookup f7 = some ⟨oc7, od7, .func (PySem.W.fnOf "_law_mixed" "_law_mixed" (defArgs sMixed) (defBody sMixed) (defScope sMixed) .none kV7 dc7 pm7 an7 cd7 ct7), sl7⟩)
    (c7 : PySem.W.codeIn K cd7 "_law_mixed" = true)
    (k7 : PySem.W.keepIn K (.ref f7) = true)
    (a8 : PySem.W.nsIn K mainGlobals "_law_rule" = some (some (.ref f8)))
    (l8 : K.lookup f8 = some ⟨oc8, od8, .func (PySem.W.fnOf "_law_rule" "_law_rule" (defArgs sRule) (defBody sRule) (defScope sRule) .none kV8 dc8 pm8 an8 cd8 ct8), sl8⟩)
    (c8 : PySem.W.codeIn K cd8 "_law_rule" = true)
    (k8 : PySem.W.keepIn K (.ref f8) = true)
    (a9 : PySem.W.nsIn K mainGlobals "_law_row" = some (some (.ref f9)))
    (l9 : K.lookup f9 = some ⟨oc9, od9, .func (PySem.W.fnOf "_law_row" "_law_row" (defArgs sRow) (defBody sRow) (defScope sRow) .none kV9 dc9 pm9 an9 cd9 ct9), sl9⟩)
    (c9 : PySem.W.codeIn K cd9 "_law_row" = true)
    (k9 : PySem.W.keepIn K (.ref f9) = true)
    (a10 : PySem.W.nsIn K mainGlobals "_law_odd" = some (some (.ref f10)))
    (l10 : K.lookup f10 = some ⟨oc10, od10, .func (PySem.W.fnOf "_law_odd" "_law_odd" (defArgs sOdd) (defBody sOdd) (defScope sOdd) .none kV10 dc10 pm10 an10 cd10 ct10), sl10⟩)
    (c10 : PySem.W.codeIn K cd10 "_law_odd" = true)
    (k10 : PySem.W.keepIn K (.ref f10) = true)
    (a11 : PySem.W.nsIn K mainGlobals "_law_bent" = some (some (.ref f11)))
    (l11 : K.lookup f11 = some ⟨oc11, od11, .func (PySem.W.fnOf "_law_bent" "_law_bent" (defArgs sBent) (defBody sBent) (defScope sBent) .none kV11 dc11 pm11 an11 cd11 ct11), sl11⟩)
    (c11 : PySem.W.codeIn K cd11 "_law_bent" = true)
    (k11 : PySem.W.keepIn K (.ref f11) = true)
    (a12 : PySem.W.nsIn K mainGlobals "_law_is_order" = some (some (.ref f12)))
    (l12 : K.lookup f12 = some ⟨oc12, od12, .func (PySem.W.fnOf "_law_is_order" "_law_is_order" (defArgs sIsOrd) (defBody sIsOrd) (defScope sIsOrd) .none kV12 dc12 pm12 an12 cd12 ct12), sl12⟩)
    (c12 : PySem.W.codeIn K cd12 "_law_is_order" = true)
    (k12 : PySem.W.keepIn K (.ref f12) = true)
    (a13 : PySem.W.nsIn K mainGlobals "law" = some (some (.ref f13)))
    (l13 : K.lookup f13 = some ⟨oc13, od13, .func (PySem.W.fnOf "law" "law" (defArgs sLaw) (defBody sLaw) (defScope sLaw) .none kV13 dc13 pm13 an13 cd13 ct13), sl13⟩)
    (c13 : PySem.W.codeIn K cd13 "law" = true)
    (k13 : PySem.W.keepIn K (.ref f13) = true)
    (zlen : PySem.W.nsIn K mainGlobals "len" = some none)
    (zrange : PySem.W.nsIn K mainGlobals "range" = some none)
    (ztuple : PySem.W.nsIn K mainGlobals "tuple" = some none)
    (zlist : PySem.W.nsIn K mainGlobals "list" = some none)
    (zabs : PySem.W.nsIn K mainGlobals "abs" = some none)
    (zint : PySem.W.nsIn K mainGlobals "int" = some none)
    (zstr : PySem.W.nsIn K mainGlobals "str" = some none)
    (zbool : PySem.W.nsIn K mainGlobals "bool" = some none)
    (zrepr : PySem.W.nsIn K mainGlobals "repr" = some none)
    (zisinstance : PySem.W.nsIn K mainGlobals "isinstance" = some none)
    (zenumerate : PySem.W.nsIn K mainGlobals "enumerate" = some none)
    (zsorted : PySem.W.nsIn K mainGlobals "sorted" = some none)
    (zset : PySem.W.nsIn K mainGlobals "set" = some none)
    (zall : PySem.W.nsIn K mainGlobals "all" = some none)
    (zmin : PySem.W.nsIn K mainGlobals "min" = some none)
    (zmax : PySem.W.nsIn K mainGlobals "max" = some none)
    (zany : PySem.W.nsIn K mainGlobals "any" = some none)
    (zzip : PySem.W.nsIn K mainGlobals "zip" = some none)
    (zsum : PySem.W.nsIn K mainGlobals "sum" = some none)
    (zreversed : PySem.W.nsIn K mainGlobals "reversed" = some none) :
    ∃ fd : FuncData, (∀ (s : Shared) (v : Value), BindsTo s fd ⟨[v], []⟩ [("_law_script", v)]) ∧ ∀ base : Heap, K.In base → base.Ns mainGlobals mg → HasSys base → FnG l.prog w K mg base 5 fa fd ["_law_script"] (spLaw K) := by
  have e := hfa.symm.trans (PySem.W.mg_of X G a13)
  cases e
  have T : Blt mg := ⟨PySem.W.mg_none_of X G zlen, PySem.W.mg_none_of X G zrange, PySem.W.mg_none_of X G ztuple, PySem.W.mg_none_of X G zlist, PySem.W.mg_none_of X G zabs, PySem.W.mg_none_of X G zint, PySem.W.mg_none_of X G zstr, PySem.W.mg_none_of X G zbool, PySem.W.mg_none_of X G zrepr, PySem.W.mg_none_of X G zisinstance, PySem.W.mg_none_of X G zenumerate, PySem.W.mg_none_of X G zsorted, PySem.W.mg_none_of X G zset, PySem.W.mg_none_of X G zall, PySem.W.mg_none_of X G zmin, PySem.W.mg_none_of X G zmax, PySem.W.mg_none_of X G zany, PySem.W.mg_none_of X G zzip, PySem.W.mg_none_of X G zsum, PySem.W.mg_none_of X G zreversed⟩
  have F1 := fun_mk (st := sIsNum) l1 c1 k1
  have b1 := F1.binds (ps := ["value"]) fun _ _ _ _ _ _ us hl => match us, hl with | [_], _ => rfl
  have F2 := fun_mk (st := sWithin) l2 c2 k2
  have b2 := F2.binds (ps := ["value", "low", "high"]) fun _ _ _ _ _ _ us hl => match us, hl with | [_, _, _], _ => rfl
  have F3 := fun_mk (st := sArr) l3 c3 k3
  have b3 := F3.binds (ps := ["value", "count"]) fun _ _ _ _ _ _ us hl => match us, hl with | [_, _], _ => rfl
  have F4 := fun_mk (st := sOrder) l4 c4 k4
  have b4 := F4.binds (ps := ["row", "value"]) fun _ _ _ _ _ _ us hl => match us, hl with | [_, _], _ => rfl
  have F5 := fun_mk (st := sUrn) l5 c5 k5
  have b5 := F5.binds (ps := ["_law_script"]) fun _ _ _ _ _ _ us hl => match us, hl with | [_], _ => rfl
  have F6 := fun_mk (st := sPull) l6 c6 k6
  have b6 := F6.binds (ps := ["_law_urn_here", "_law_many"]) fun _ _ _ _ _ _ us hl => match us, hl with | [_, _], _ => rfl
  have F7 := fun_mk (st := sMixed) l7 c7 k7
  have b7 := F7.binds (ps := ["_law_urn_here", "_law_items"]) fun _ _ _ _ _ _ us hl => match us, hl with | [_, _], _ => rfl
  have F8 := fun_mk (st := sRule) l8 c8 k8
  have b8 := F8.binds (ps := ["_law_urn_here"]) fun _ _ _ _ _ _ us hl => match us, hl with | [_], _ => rfl
  have F9 := fun_mk (st := sRow) l9 c9 k9
  have b9 := F9.binds (ps := ["_law_urn_here", "_law_rule_here", "_law_cars"]) fun _ _ _ _ _ _ us hl => match us, hl with | [_, _, _], _ => rfl
  have F10 := fun_mk (st := sOdd) l10 c10 k10
  have b10 := F10.binds (ps := ["_law_urn_here"]) fun _ _ _ _ _ _ us hl => match us, hl with | [_], _ => rfl
  have F11 := fun_mk (st := sBent) l11 c11 k11
  have b11 := F11.binds (ps := ["_law_urn_here", "_law_order"]) fun _ _ _ _ _ _ us hl => match us, hl with | [_, _], _ => rfl
  have F12 := fun_mk (st := sIsOrd) l12 c12 k12
  have b12 := F12.binds (ps := ["_law_row_here", "_law_value"]) fun _ _ _ _ _ _ us hl => match us, hl with | [_, _], _ => rfl
  have F13 := fun_mk (st := sLaw) l13 c13 k13
  refine ⟨PySem.W.fnOf "law" "law" (defArgs sLaw) (defBody sLaw) (defScope sLaw) .none kV13 dc13 pm13 an13 cd13 ct13, fun s v => .of_eq rfl, fun base _ _ hs => ?_⟩
  have h__law_pull : Cal l.prog w K mg base 1 "_law_pull" ["_law_urn_here", "_law_many"] (spPull l.prog w) := ⟨f6, _, ok_pull F6 T, PySem.W.mg_of X G a6, k6, b6⟩
  have h__law_urn : Cal l.prog w K mg base 1 "_law_urn" ["_law_script"] (spUrn l.prog w K) := ⟨f5, _, ok_urn F5 T, PySem.W.mg_of X G a5, k5, b5⟩
  have h__law_mixed : Cal l.prog w K mg base 2 "_law_mixed" ["_law_urn_here", "_law_items"] (spMixed l.prog w K) := ⟨f7, _, ok_mixed F7 T h__law_pull, PySem.W.mg_of X G a7, k7, b7⟩
  have h__law_rule : Cal l.prog w K mg base 3 "_law_rule" ["_law_urn_here"] (spRule l.prog w) := ⟨f8, _, ok_rule F8 T h__law_pull h__law_mixed, PySem.W.mg_of X G a8, k8, b8⟩
  have h__law_row : Cal l.prog w K mg base 2 "_law_row" ["_law_urn_here", "_law_rule_here", "_law_cars"] (spRow l.prog w) := ⟨f9, _, ok_row F9 T h__law_pull, PySem.W.mg_of X G a9, k9, b9⟩
  have h__law_odd : Cal l.prog w K mg base 2 "_law_odd" ["_law_urn_here"] (spOdd l.prog w) := ⟨f10, _, ok_odd F10 T h__law_pull, PySem.W.mg_of X G a10, k10, b10⟩
  have h__law_bent : Cal l.prog w K mg base 3 "_law_bent" ["_law_urn_here", "_law_order"] (spBent l.prog w) := ⟨f11, _, ok_bent F11 T h__law_pull h__law_odd, PySem.W.mg_of X G a11, k11, b11⟩
  have h__law_is_order : Cal l.prog w K mg base 1 "_law_is_order" ["_law_row_here", "_law_value"] spOrder := ⟨f12, _, ok_law_is_order F12 T, PySem.W.mg_of X G a12, k12, b12⟩
  have h_is_number : Cal l.prog w K mg base 1 "is_number" ["value"] spNum := ⟨f1, _, ok_num F1 T, PySem.W.mg_of X G a1, k1, b1⟩
  have h_is_within : Cal l.prog w K mg base 2 "is_within" ["value", "low", "high"] spWithin := ⟨f2, _, ok_within F2 T h_is_number, PySem.W.mg_of X G a2, k2, b2⟩
  have h_is_arrangement : Cal l.prog w K mg base 3 "is_arrangement" ["value", "count"] spArr := ⟨f3, _, ok_arr F3 T h_is_within, PySem.W.mg_of X G a3, k3, b3⟩
  have h_is_order : Cal l.prog w K mg base 4 "is_order" ["row", "value"] spOrder := ⟨f4, _, ok_order F4 T h_is_arrangement, PySem.W.mg_of X G a4, k4, b4⟩
  exact ok_law hs F13 T h__law_urn h__law_rule h__law_row h__law_mixed h__law_odd h__law_bent h__law_is_order h_is_order
end Lr
open PySem PySem.W PyProof.Rows
set_option maxRecDepth 100000 in
set_option maxHeartbeats 0 in
theorem PySem.Challenge.cw_lanerules_k11_orders_judged_holds : PySem.Challenge.rw_lanerules_k11_orders_judged.Holds := by
  w_on; o_law; k_head; (case hw => w_witness2)
  k_fill
  refine Lr.walkS (l := PySem.Challenge.rw_lanerules_k11_orders_judged) (n := 63) (k := 5) (x := "_law_script") (sp := fun w => Lr.spLaw _) rfl (by decide) rfl ⟨rfl, by decide, by decide⟩ (by decide +kernel) (fun w h Y => PySem.W.kIn_of Y) ?F (fun w H a ns hl hS => ⟨a, ns, rfl, hS, hl, fun _ => rfl⟩)
  case F =>
    intro w mg fa h KX G hmg
    refine' Lr.all_mk KX G hmg ?a1 ?l1 ?c1 ?k1 ?a2 ?l2 ?c2 ?k2 ?a3 ?l3 ?c3 ?k3 ?a4 ?l4 ?c4 ?k4 ?a5 ?l5 ?c5 ?k5 ?a6 ?l6 ?c6 ?k6 ?a7 ?l7 ?c7 ?k7 ?a8 ?l8 ?c8 ?k8 ?a9 ?l9 ?c9 ?k9 ?a10 ?l10 ?c10 ?k10 ?a11 ?l11 ?c11 ?k11 ?a12 ?l12 ?c12 ?k12 ?a13 ?l13 ?c13 ?k13 ?zlen ?zrange ?ztuple ?zlist ?zabs ?zint ?zstr ?zbool ?zrepr ?zisinstance ?zenumerate ?zsorted ?zset ?zall ?zmin ?zmax ?zany ?zzip ?zsum ?zreversed
    (case a1 => k_is); (case l1 => k_is); (case c1 => k_is); (case k1 => k_is); (case a2 => k_is); (case l2 => k_is)
    (case c2 => k_is); (case k2 => k_is); (case a3 => k_is); (case l3 => k_is); (case c3 => k_is); (case k3 => k_is)
    (case a4 => k_is); (case l4 => k_is); (case c4 => k_is); (case k4 => k_is); (case a5 => k_is); (case l5 => k_is)
    (case c5 => k_is); (case k5 => k_is); (case a6 => k_is); (case l6 => k_is); (case c6 => k_is); (case k6 => k_is)
    (case a7 => k_is); (case l7 => k_is); (case c7 => k_is); (case k7 => k_is); (case a8 => k_is); (case l8 => k_is)
    (case c8 => k_is); (case k8 => k_is); (case a9 => k_is); (case l9 => k_is); (case c9 => k_is); (case k9 => k_is)
    (case a10 => k_is); (case l10 => k_is); (case c10 => k_is); (case k10 => k_is); (case a11 => k_is); (case l11 => k_is)
    (case c11 => k_is); (case k11 => k_is); (case a12 => k_is); (case l12 => k_is); (case c12 => k_is); (case k12 => k_is)
    (case a13 => k_is); (case l13 => k_is); (case c13 => k_is); (case k13 => k_is); (case zlen => k_is); (case zrange => k_is)
    (case ztuple => k_is); (case zlist => k_is); (case zabs => k_is); (case zint => k_is); (case zstr => k_is); (case zbool => k_is)
    (case zrepr => k_is); (case zisinstance => k_is); (case zenumerate => k_is); (case zsorted => k_is); (case zset => k_is); (case zall => k_is)
    (case zmin => k_is); (case zmax => k_is); (case zany => k_is); (case zzip => k_is); (case zsum => k_is); (case zreversed => k_is)
